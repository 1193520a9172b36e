/-
  Parts: WTwoA, WTwoB, TwoS, Two, shortened.
-/
import Derived.Test.YtlcgimadbpagfaaGreatZCut
namespace Go.Proofs.YtlcgimadbpagfaaGreat
open Go.Lib
open Go.ChangeShapes Go.WideShapes Go.ChangeAt Go.RowKit
theorem ixTwo6 (w : World) : (Instr.index 211 (.agg twoTab) (.int .i64 6)).run Tryz.prog w = .ok (.agg #[.func (.func 213) #[] #[], .bool false]) w := by kernel_rfl
theorem c_WordTwoI6 (n a b : Int) (ha : WOk n a) (hb : WOk n b) (w : World) :
  Calls Tryz.prog 173 #[.int .i64 6, .int .i64 n, .int .i64 a, .int .i64 b] w fun e w' => e = .returned (.tuple #[.int .i64 (twoV 6 n a b), .int .i64 n, .bool true]) ∧ Below w.heap.size w w' := by
 have hd1 : decide (WOk n a) = true := decide_eq_true ha
 have hd2 : decide (WOk n b) = true := decide_eq_true hb
 have hA : Hid (WOk n a) := ha
 have hB : Hid (WOk n b) := hb
 clear ha hb
 have ix := ixTwo6
 go_enter Tryz.func173, Tryz.ntmps173
 go_wp2_with (first | (go_at_call 148; refine (c_WordOkI _ _ _).mono ?_; rintro e w' ⟨rfl, rfl⟩) | (go_at_call 196; refine (c_twoRules _).mono ?_; rintro e w' ⟨rfl, hG⟩))
 go_quiet (first | (go_at_call 213; exact Calls.quiet_of_same (c_wordAnd _ _ _ hA.out hB.out _)) | (go_at_call 195; exact Calls.quiet_of_same (c_ruleWidth _ _ _)))
 go_wp2
 go_ret3
 exact ⟨ret3 rfl rfl rfl, below_drewN (hG.alloc hG.size _) _⟩
theorem ixTwo7 (w : World) : (Instr.index 211 (.agg twoTab) (.int .i64 7)).run Tryz.prog w = .ok (.agg #[.func (.func 214) #[] #[], .bool false]) w := by kernel_rfl
theorem c_WordTwoI7 (n a b : Int) (ha : WOk n a) (hb : WOk n b) (w : World) :
  Calls Tryz.prog 173 #[.int .i64 7, .int .i64 n, .int .i64 a, .int .i64 b] w fun e w' => e = .returned (.tuple #[.int .i64 (twoV 7 n a b), .int .i64 n, .bool true]) ∧ Below w.heap.size w w' := by
 have hd1 : decide (WOk n a) = true := decide_eq_true ha
 have hd2 : decide (WOk n b) = true := decide_eq_true hb
 have hA : Hid (WOk n a) := ha
 have hB : Hid (WOk n b) := hb
 clear ha hb
 have ix := ixTwo7
 go_enter Tryz.func173, Tryz.ntmps173
 go_wp2_with (first | (go_at_call 148; refine (c_WordOkI _ _ _).mono ?_; rintro e w' ⟨rfl, rfl⟩) | (go_at_call 196; refine (c_twoRules _).mono ?_; rintro e w' ⟨rfl, hG⟩))
 go_quiet (first | (go_at_call 214; exact Calls.quiet_of_same (c_wordOr _ _ _ hA.out hB.out _)) | (go_at_call 195; exact Calls.quiet_of_same (c_ruleWidth _ _ _)))
 go_wp2
 go_ret3
 exact ⟨ret3 rfl rfl rfl, below_drewN (hG.alloc hG.size _) _⟩
theorem ixTwo8 (w : World) : (Instr.index 211 (.agg twoTab) (.int .i64 8)).run Tryz.prog w = .ok (.agg #[.func (.func 215) #[] #[], .bool false]) w := by kernel_rfl
theorem c_WordTwoI8 (n a b : Int) (ha : WOk n a) (hb : WOk n b) (w : World) :
  Calls Tryz.prog 173 #[.int .i64 8, .int .i64 n, .int .i64 a, .int .i64 b] w fun e w' => e = .returned (.tuple #[.int .i64 (twoV 8 n a b), .int .i64 n, .bool true]) ∧ Below w.heap.size w w' := by
 have hd1 : decide (WOk n a) = true := decide_eq_true ha
 have hd2 : decide (WOk n b) = true := decide_eq_true hb
 have hA : Hid (WOk n a) := ha
 have hB : Hid (WOk n b) := hb
 clear ha hb
 have ix := ixTwo8
 go_enter Tryz.func173, Tryz.ntmps173
 go_wp2_with (first | (go_at_call 148; refine (c_WordOkI _ _ _).mono ?_; rintro e w' ⟨rfl, rfl⟩) | (go_at_call 196; refine (c_twoRules _).mono ?_; rintro e w' ⟨rfl, hG⟩))
 go_quiet (first | (go_at_call 215; exact Calls.quiet_of_same (c_wordXor _ _ _ hA.out hB.out _)) | (go_at_call 195; exact Calls.quiet_of_same (c_ruleWidth _ _ _)))
 go_wp2
 go_ret3
 exact ⟨ret3 rfl rfl rfl, below_drewN (hG.alloc hG.size _) _⟩
theorem ixTwo9 (w : World) : (Instr.index 211 (.agg twoTab) (.int .i64 9)).run Tryz.prog w = .ok (.agg #[.func (.func 216) #[] #[], .bool false]) w := by kernel_rfl
theorem c_WordTwoI9 (n a b : Int) (ha : WOk n a) (hb : WOk n b) (w : World) :
  Calls Tryz.prog 173 #[.int .i64 9, .int .i64 n, .int .i64 a, .int .i64 b] w fun e w' => e = .returned (.tuple #[.int .i64 (twoV 9 n a b), .int .i64 n, .bool true]) ∧ Below w.heap.size w w' := by
 have hd1 : decide (WOk n a) = true := decide_eq_true ha
 have hd2 : decide (WOk n b) = true := decide_eq_true hb
 have hA : Hid (WOk n a) := ha
 have hB : Hid (WOk n b) := hb
 clear ha hb
 have ix := ixTwo9
 go_enter Tryz.func173, Tryz.ntmps173
 go_wp2_with (first | (go_at_call 148; refine (c_WordOkI _ _ _).mono ?_; rintro e w' ⟨rfl, rfl⟩) | (go_at_call 196; refine (c_twoRules _).mono ?_; rintro e w' ⟨rfl, hG⟩))
 go_quiet (first | (go_at_call 216; exact Calls.quiet_of_same (c_wordAdd _ _ _ hA.out hB.out _)) | (go_at_call 195; exact Calls.quiet_of_same (c_ruleWidth _ _ _)))
 go_wp2
 go_ret3
 exact ⟨ret3 rfl rfl rfl, below_drewN (hG.alloc hG.size _) _⟩
theorem ixTwo10 (w : World) : (Instr.index 211 (.agg twoTab) (.int .i64 10)).run Tryz.prog w = .ok (.agg #[.func (.func 217) #[] #[], .bool false]) w := by kernel_rfl
theorem c_WordTwoI10 (n a b : Int) (ha : WOk n a) (hb : WOk n b) (w : World) :
  Calls Tryz.prog 173 #[.int .i64 10, .int .i64 n, .int .i64 a, .int .i64 b] w fun e w' => e = .returned (.tuple #[.int .i64 (twoV 10 n a b), .int .i64 n, .bool true]) ∧ Below w.heap.size w w' := by
 have hd1 : decide (WOk n a) = true := decide_eq_true ha
 have hd2 : decide (WOk n b) = true := decide_eq_true hb
 have hA : Hid (WOk n a) := ha
 have hB : Hid (WOk n b) := hb
 clear ha hb
 have ix := ixTwo10
 go_enter Tryz.func173, Tryz.ntmps173
 go_wp2_with (first | (go_at_call 148; refine (c_WordOkI _ _ _).mono ?_; rintro e w' ⟨rfl, rfl⟩) | (go_at_call 196; refine (c_twoRules _).mono ?_; rintro e w' ⟨rfl, hG⟩))
 go_quiet (first | (go_at_call 217; exact Calls.quiet_of_same (c_wordSub _ _ _ hA.out hB.out _)) | (go_at_call 195; exact Calls.quiet_of_same (c_ruleWidth _ _ _)))
 go_wp2
 go_ret3
 exact ⟨ret3 rfl rfl rfl, below_drewN (hG.alloc hG.size _) _⟩
theorem ixTwo11 (w : World) : (Instr.index 211 (.agg twoTab) (.int .i64 11)).run Tryz.prog w = .ok (.agg #[.func (.func 218) #[] #[], .bool false]) w := by kernel_rfl
theorem c_WordTwoI11 (n a b : Int) (ha : WOk n a) (hb : WOk n b) (w : World) :
  Calls Tryz.prog 173 #[.int .i64 11, .int .i64 n, .int .i64 a, .int .i64 b] w fun e w' => e = .returned (.tuple #[.int .i64 (twoV 11 n a b), .int .i64 n, .bool true]) ∧ Below w.heap.size w w' := by
 have hd1 : decide (WOk n a) = true := decide_eq_true ha
 have hd2 : decide (WOk n b) = true := decide_eq_true hb
 have hA : Hid (WOk n a) := ha
 have hB : Hid (WOk n b) := hb
 clear ha hb
 have ix := ixTwo11
 go_enter Tryz.func173, Tryz.ntmps173
 go_wp2_with (first | (go_at_call 148; refine (c_WordOkI _ _ _).mono ?_; rintro e w' ⟨rfl, rfl⟩) | (go_at_call 196; refine (c_twoRules _).mono ?_; rintro e w' ⟨rfl, hG⟩))
 go_quiet (first | (go_at_call 218; exact Calls.quiet_of_same (c_wordMul _ _ _ hA.out hB.out _)) | (go_at_call 195; exact Calls.quiet_of_same (c_ruleWidth _ _ _)))
 go_wp2
 go_ret3
 exact ⟨ret3 rfl rfl rfl, below_drewN (hG.alloc hG.size _) _⟩
theorem ixTwo12 (w : World) : (Instr.index 211 (.agg twoTab) (.int .i64 12)).run Tryz.prog w = .ok (.agg #[.func (.func 219) #[] #[], .bool false]) w := by kernel_rfl
theorem c_WordTwoI12 (n a b : Int) (ha : WOk n a) (hb : WOk n b) (w : World) :
  Calls Tryz.prog 173 #[.int .i64 12, .int .i64 n, .int .i64 a, .int .i64 b] w fun e w' => e = .returned (.tuple #[.int .i64 (twoV 12 n a b), .int .i64 n, .bool true]) ∧ Below w.heap.size w w' := by
 have hd1 : decide (WOk n a) = true := decide_eq_true ha
 have hd2 : decide (WOk n b) = true := decide_eq_true hb
 have hA : Hid (WOk n a) := ha
 have hB : Hid (WOk n b) := hb
 clear ha hb
 have ix := ixTwo12
 go_enter Tryz.func173, Tryz.ntmps173
 go_wp2_with (first | (go_at_call 148; refine (c_WordOkI _ _ _).mono ?_; rintro e w' ⟨rfl, rfl⟩) | (go_at_call 196; refine (c_twoRules _).mono ?_; rintro e w' ⟨rfl, hG⟩))
 go_quiet (first | (go_at_call 219; exact Calls.quiet_of_same (c_wordDiv _ _ _ hA.out hB.out _)) | (go_at_call 195; exact Calls.quiet_of_same (c_ruleWidth _ _ _)))
 go_wp2
 go_ret3
 exact ⟨ret3 rfl rfl rfl, below_drewN (hG.alloc hG.size _) _⟩
theorem ixTwo13 (w : World) : (Instr.index 211 (.agg twoTab) (.int .i64 13)).run Tryz.prog w = .ok (.agg #[.func (.func 220) #[] #[], .bool false]) w := by kernel_rfl
theorem c_WordTwoI13 (n a b : Int) (ha : WOk n a) (hb : WOk n b) (w : World) :
  Calls Tryz.prog 173 #[.int .i64 13, .int .i64 n, .int .i64 a, .int .i64 b] w fun e w' => e = .returned (.tuple #[.int .i64 (twoV 13 n a b), .int .i64 n, .bool true]) ∧ Below w.heap.size w w' := by
 have hd1 : decide (WOk n a) = true := decide_eq_true ha
 have hd2 : decide (WOk n b) = true := decide_eq_true hb
 have hA : Hid (WOk n a) := ha
 have hB : Hid (WOk n b) := hb
 clear ha hb
 have ix := ixTwo13
 go_enter Tryz.func173, Tryz.ntmps173
 go_wp2_with (first | (go_at_call 148; refine (c_WordOkI _ _ _).mono ?_; rintro e w' ⟨rfl, rfl⟩) | (go_at_call 196; refine (c_twoRules _).mono ?_; rintro e w' ⟨rfl, hG⟩))
 go_quiet (first | (go_at_call 220; exact Calls.quiet_of_same (c_wordRem _ _ _ hA.out hB.out _)) | (go_at_call 195; exact Calls.quiet_of_same (c_ruleWidth _ _ _)))
 go_wp2
 go_ret3
 exact ⟨ret3 rfl rfl rfl, below_drewN (hG.alloc hG.size _) _⟩
theorem ixTwo14 (w : World) : (Instr.index 211 (.agg twoTab) (.int .i64 14)).run Tryz.prog w = .ok (.agg #[.func (.func 221) #[] #[], .bool false]) w := by kernel_rfl
theorem c_WordTwoI14 (n a b : Int) (ha : WOk n a) (hb : WOk n b) (w : World) :
  Calls Tryz.prog 173 #[.int .i64 14, .int .i64 n, .int .i64 a, .int .i64 b] w fun e w' => e = .returned (.tuple #[.int .i64 (twoV 14 n a b), .int .i64 n, .bool true]) ∧ Below w.heap.size w w' := by
 have hd1 : decide (WOk n a) = true := decide_eq_true ha
 have hd2 : decide (WOk n b) = true := decide_eq_true hb
 have hA : Hid (WOk n a) := ha
 have hB : Hid (WOk n b) := hb
 clear ha hb
 have ix := ixTwo14
 go_enter Tryz.func173, Tryz.ntmps173
 go_wp2_with (first | (go_at_call 148; refine (c_WordOkI _ _ _).mono ?_; rintro e w' ⟨rfl, rfl⟩) | (go_at_call 196; refine (c_twoRules _).mono ?_; rintro e w' ⟨rfl, hG⟩))
 go_quiet (first | (go_at_call 221; exact Calls.quiet_of_same (c_wordSdiv _ _ _ hA.out hB.out _)) | (go_at_call 195; exact Calls.quiet_of_same (c_ruleWidth _ _ _)))
 go_wp2
 go_ret3
 exact ⟨ret3 rfl rfl rfl, below_drewN (hG.alloc hG.size _) _⟩
theorem ixTwo15 (w : World) : (Instr.index 211 (.agg twoTab) (.int .i64 15)).run Tryz.prog w = .ok (.agg #[.func (.func 222) #[] #[], .bool false]) w := by kernel_rfl
theorem c_WordTwoI15 (n a b : Int) (ha : WOk n a) (hb : WOk n b) (w : World) :
  Calls Tryz.prog 173 #[.int .i64 15, .int .i64 n, .int .i64 a, .int .i64 b] w fun e w' => e = .returned (.tuple #[.int .i64 (twoV 15 n a b), .int .i64 n, .bool true]) ∧ Below w.heap.size w w' := by
 have hd1 : decide (WOk n a) = true := decide_eq_true ha
 have hd2 : decide (WOk n b) = true := decide_eq_true hb
 have hA : Hid (WOk n a) := ha
 have hB : Hid (WOk n b) := hb
 clear ha hb
 have ix := ixTwo15
 go_enter Tryz.func173, Tryz.ntmps173
 go_wp2_with (first | (go_at_call 148; refine (c_WordOkI _ _ _).mono ?_; rintro e w' ⟨rfl, rfl⟩) | (go_at_call 196; refine (c_twoRules _).mono ?_; rintro e w' ⟨rfl, hG⟩))
 go_quiet (first | (go_at_call 222; exact Calls.quiet_of_same (c_wordSrem _ _ _ hA.out hB.out _)) | (go_at_call 195; exact Calls.quiet_of_same (c_ruleWidth _ _ _)))
 go_wp2
 go_ret3
 exact ⟨ret3 rfl rfl rfl, below_drewN (hG.alloc hG.size _) _⟩
theorem ixTwo16 (w : World) : (Instr.index 211 (.agg twoTab) (.int .i64 16)).run Tryz.prog w = .ok (.agg #[.func (.func 223) #[] #[], .bool false]) w := by kernel_rfl
theorem c_WordTwoI16 (n a b : Int) (ha : WOk n a) (hb : WOk n b) (w : World) :
  Calls Tryz.prog 173 #[.int .i64 16, .int .i64 n, .int .i64 a, .int .i64 b] w fun e w' => e = .returned (.tuple #[.int .i64 (twoV 16 n a b), .int .i64 n, .bool true]) ∧ Below w.heap.size w w' := by
 have hd1 : decide (WOk n a) = true := decide_eq_true ha
 have hd2 : decide (WOk n b) = true := decide_eq_true hb
 have hA : Hid (WOk n a) := ha
 have hB : Hid (WOk n b) := hb
 clear ha hb
 have ix := ixTwo16
 go_enter Tryz.func173, Tryz.ntmps173
 go_wp2_with (first | (go_at_call 148; refine (c_WordOkI _ _ _).mono ?_; rintro e w' ⟨rfl, rfl⟩) | (go_at_call 196; refine (c_twoRules _).mono ?_; rintro e w' ⟨rfl, hG⟩))
 go_quiet (first | (go_at_call 223; exact Calls.quiet_of_same (c_wordShl _ _ _ hA.out hB.out _)) | (go_at_call 195; exact Calls.quiet_of_same (c_ruleWidth _ _ _)))
 go_wp2
 go_ret3
 exact ⟨ret3 rfl rfl rfl, below_drewN (hG.alloc hG.size _) _⟩
theorem ixTwo17 (w : World) : (Instr.index 211 (.agg twoTab) (.int .i64 17)).run Tryz.prog w = .ok (.agg #[.func (.func 224) #[] #[], .bool false]) w := by kernel_rfl
theorem c_WordTwoI17 (n a b : Int) (ha : WOk n a) (hb : WOk n b) (w : World) :
  Calls Tryz.prog 173 #[.int .i64 17, .int .i64 n, .int .i64 a, .int .i64 b] w fun e w' => e = .returned (.tuple #[.int .i64 (twoV 17 n a b), .int .i64 n, .bool true]) ∧ Below w.heap.size w w' := by
 have hd1 : decide (WOk n a) = true := decide_eq_true ha
 have hd2 : decide (WOk n b) = true := decide_eq_true hb
 have hA : Hid (WOk n a) := ha
 have hB : Hid (WOk n b) := hb
 clear ha hb
 have ix := ixTwo17
 go_enter Tryz.func173, Tryz.ntmps173
 go_wp2_with (first | (go_at_call 148; refine (c_WordOkI _ _ _).mono ?_; rintro e w' ⟨rfl, rfl⟩) | (go_at_call 196; refine (c_twoRules _).mono ?_; rintro e w' ⟨rfl, hG⟩))
 go_quiet (first | (go_at_call 224; exact Calls.quiet_of_same (c_wordShr _ _ _ hA.out hB.out _)) | (go_at_call 195; exact Calls.quiet_of_same (c_ruleWidth _ _ _)))
 go_wp2
 go_ret3
 exact ⟨ret3 rfl rfl rfl, below_drewN (hG.alloc hG.size _) _⟩
end Go.Proofs.YtlcgimadbpagfaaGreat
namespace Go.Proofs.YtlcgimadbpagfaaGreat
open Go.Lib
open Go.ChangeShapes Go.WideShapes Go.ChangeAt Go.RowKit
theorem ixTwo18 (w : World) : (Instr.index 211 (.agg twoTab) (.int .i64 18)).run Tryz.prog w = .ok (.agg #[.func (.func 225) #[] #[], .bool false]) w := by kernel_rfl
theorem c_WordTwoI18 (n a b : Int) (ha : WOk n a) (hb : WOk n b) (w : World) :
  Calls Tryz.prog 173 #[.int .i64 18, .int .i64 n, .int .i64 a, .int .i64 b] w fun e w' => e = .returned (.tuple #[.int .i64 (twoV 18 n a b), .int .i64 n, .bool true]) ∧ Below w.heap.size w w' := by
 have hd1 : decide (WOk n a) = true := decide_eq_true ha
 have hd2 : decide (WOk n b) = true := decide_eq_true hb
 have hA : Hid (WOk n a) := ha
 have hB : Hid (WOk n b) := hb
 clear ha hb
 have ix := ixTwo18
 go_enter Tryz.func173, Tryz.ntmps173
 go_wp2_with (first | (go_at_call 148; refine (c_WordOkI _ _ _).mono ?_; rintro e w' ⟨rfl, rfl⟩) | (go_at_call 196; refine (c_twoRules _).mono ?_; rintro e w' ⟨rfl, hG⟩))
 go_quiet (first | (go_at_call 225; exact Calls.quiet_of_same (c_wordSar _ _ _ hA.out hB.out _)) | (go_at_call 195; exact Calls.quiet_of_same (c_ruleWidth _ _ _)))
 go_wp2
 go_ret3
 exact ⟨ret3 rfl rfl rfl, below_drewN (hG.alloc hG.size _) _⟩
theorem ixTwo19 (w : World) : (Instr.index 211 (.agg twoTab) (.int .i64 19)).run Tryz.prog w = .ok (.agg #[.func (.func 226) #[] #[], .bool false]) w := by kernel_rfl
theorem c_WordTwoI19 (n a b : Int) (ha : WOk n a) (hb : WOk n b) (w : World) :
  Calls Tryz.prog 173 #[.int .i64 19, .int .i64 n, .int .i64 a, .int .i64 b] w fun e w' => e = .returned (.tuple #[.int .i64 (twoV 19 n a b), .int .i64 n, .bool true]) ∧ Below w.heap.size w w' := by
 have hd1 : decide (WOk n a) = true := decide_eq_true ha
 have hd2 : decide (WOk n b) = true := decide_eq_true hb
 have hA : Hid (WOk n a) := ha
 have hB : Hid (WOk n b) := hb
 clear ha hb
 have ix := ixTwo19
 go_enter Tryz.func173, Tryz.ntmps173
 go_wp2_with (first | (go_at_call 148; refine (c_WordOkI _ _ _).mono ?_; rintro e w' ⟨rfl, rfl⟩) | (go_at_call 196; refine (c_twoRules _).mono ?_; rintro e w' ⟨rfl, hG⟩))
 go_quiet (first | (go_at_call 226; exact Calls.quiet_of (c_wordRol _ _ _ hA.out hB.out.2.2.1 (by have := hB.out.lt; omega) _)) | (go_at_call 195; exact Calls.quiet_of_same (c_ruleWidth _ _ _)))
 go_wp2
 go_ret3
 exact ⟨ret3 rfl rfl rfl, below_drewN (hG.alloc hG.size _) _⟩
theorem ixTwo20 (w : World) : (Instr.index 211 (.agg twoTab) (.int .i64 20)).run Tryz.prog w = .ok (.agg #[.func (.func 227) #[] #[], .bool false]) w := by kernel_rfl
theorem c_WordTwoI20 (n a b : Int) (ha : WOk n a) (hb : WOk n b) (w : World) :
  Calls Tryz.prog 173 #[.int .i64 20, .int .i64 n, .int .i64 a, .int .i64 b] w fun e w' => e = .returned (.tuple #[.int .i64 (twoV 20 n a b), .int .i64 n, .bool true]) ∧ Below w.heap.size w w' := by
 have hd1 : decide (WOk n a) = true := decide_eq_true ha
 have hd2 : decide (WOk n b) = true := decide_eq_true hb
 have hA : Hid (WOk n a) := ha
 have hB : Hid (WOk n b) := hb
 clear ha hb
 have ix := ixTwo20
 go_enter Tryz.func173, Tryz.ntmps173
 go_wp2_with (first | (go_at_call 148; refine (c_WordOkI _ _ _).mono ?_; rintro e w' ⟨rfl, rfl⟩) | (go_at_call 196; refine (c_twoRules _).mono ?_; rintro e w' ⟨rfl, hG⟩))
 go_quiet (first | (go_at_call 227; exact Calls.quiet_of (c_wordRor _ _ _ hA.out hB.out _)) | (go_at_call 195; exact Calls.quiet_of_same (c_ruleWidth _ _ _)))
 go_wp2
 go_ret3
 exact ⟨ret3 rfl rfl rfl, below_drewN (hG.alloc hG.size _) _⟩
theorem ixTwo21 (w : World) : (Instr.index 211 (.agg twoTab) (.int .i64 21)).run Tryz.prog w = .ok (.agg #[.func (.func 228) #[] #[], .bool true]) w := by kernel_rfl
theorem c_WordTwoI21 (n a b : Int) (ha : WOk n a) (hb : WOk n b) (w : World) :
  Calls Tryz.prog 173 #[.int .i64 21, .int .i64 n, .int .i64 a, .int .i64 b] w fun e w' => e = .returned (.tuple #[.int .i64 (twoV 21 n a b), .int .i64 1, .bool true]) ∧ Below w.heap.size w w' := by
 have hd1 : decide (WOk n a) = true := decide_eq_true ha
 have hd2 : decide (WOk n b) = true := decide_eq_true hb
 have hA : Hid (WOk n a) := ha
 have hB : Hid (WOk n b) := hb
 clear ha hb
 have ix := ixTwo21
 go_enter Tryz.func173, Tryz.ntmps173
 go_wp2_with (first | (go_at_call 148; refine (c_WordOkI _ _ _).mono ?_; rintro e w' ⟨rfl, rfl⟩) | (go_at_call 196; refine (c_twoRules _).mono ?_; rintro e w' ⟨rfl, hG⟩))
 go_quiet (first | (go_at_call 228; exact Calls.quiet_of_same (c_wordEq _ _ _ hA.out hB.out _)) | (go_at_call 195; exact Calls.quiet_of_same (c_ruleWidth _ _ _)))
 go_wp2
 go_ret3
 exact ⟨ret3 rfl rfl rfl, below_drewN (hG.alloc hG.size _) _⟩
theorem ixTwo22 (w : World) : (Instr.index 211 (.agg twoTab) (.int .i64 22)).run Tryz.prog w = .ok (.agg #[.func (.func 229) #[] #[], .bool true]) w := by kernel_rfl
theorem c_WordTwoI22 (n a b : Int) (ha : WOk n a) (hb : WOk n b) (w : World) :
  Calls Tryz.prog 173 #[.int .i64 22, .int .i64 n, .int .i64 a, .int .i64 b] w fun e w' => e = .returned (.tuple #[.int .i64 (twoV 22 n a b), .int .i64 1, .bool true]) ∧ Below w.heap.size w w' := by
 have hd1 : decide (WOk n a) = true := decide_eq_true ha
 have hd2 : decide (WOk n b) = true := decide_eq_true hb
 have hA : Hid (WOk n a) := ha
 have hB : Hid (WOk n b) := hb
 clear ha hb
 have ix := ixTwo22
 go_enter Tryz.func173, Tryz.ntmps173
 go_wp2_with (first | (go_at_call 148; refine (c_WordOkI _ _ _).mono ?_; rintro e w' ⟨rfl, rfl⟩) | (go_at_call 196; refine (c_twoRules _).mono ?_; rintro e w' ⟨rfl, hG⟩))
 go_quiet (first | (go_at_call 229; exact Calls.quiet_of_same (c_wordLess _ _ _ hA.out hB.out _)) | (go_at_call 195; exact Calls.quiet_of_same (c_ruleWidth _ _ _)))
 go_wp2
 go_ret3
 exact ⟨ret3 rfl rfl rfl, below_drewN (hG.alloc hG.size _) _⟩
theorem ixTwo23 (w : World) : (Instr.index 211 (.agg twoTab) (.int .i64 23)).run Tryz.prog w = .ok (.agg #[.func (.func 230) #[] #[], .bool true]) w := by kernel_rfl
theorem c_WordTwoI23 (n a b : Int) (ha : WOk n a) (hb : WOk n b) (w : World) :
  Calls Tryz.prog 173 #[.int .i64 23, .int .i64 n, .int .i64 a, .int .i64 b] w fun e w' => e = .returned (.tuple #[.int .i64 (twoV 23 n a b), .int .i64 1, .bool true]) ∧ Below w.heap.size w w' := by
 have hd1 : decide (WOk n a) = true := decide_eq_true ha
 have hd2 : decide (WOk n b) = true := decide_eq_true hb
 have hA : Hid (WOk n a) := ha
 have hB : Hid (WOk n b) := hb
 clear ha hb
 have ix := ixTwo23
 go_enter Tryz.func173, Tryz.ntmps173
 go_wp2_with (first | (go_at_call 148; refine (c_WordOkI _ _ _).mono ?_; rintro e w' ⟨rfl, rfl⟩) | (go_at_call 196; refine (c_twoRules _).mono ?_; rintro e w' ⟨rfl, hG⟩))
 go_quiet (first | (go_at_call 230; exact Calls.quiet_of_same (c_wordSless _ _ _ hA.out hB.out _)) | (go_at_call 195; exact Calls.quiet_of_same (c_ruleWidth _ _ _)))
 go_wp2
 go_ret3
 exact ⟨ret3 rfl rfl rfl, below_drewN (hG.alloc hG.size _) _⟩
theorem ixTwo24 (w : World) : (Instr.index 211 (.agg twoTab) (.int .i64 24)).run Tryz.prog w = .ok (.agg #[.func (.func 231) #[] #[], .bool true]) w := by kernel_rfl
theorem c_WordTwoI24 (n a b : Int) (ha : WOk n a) (hb : WOk n b) (w : World) :
  Calls Tryz.prog 173 #[.int .i64 24, .int .i64 n, .int .i64 a, .int .i64 b] w fun e w' => e = .returned (.tuple #[.int .i64 (twoV 24 n a b), .int .i64 1, .bool true]) ∧ Below w.heap.size w w' := by
 have hd1 : decide (WOk n a) = true := decide_eq_true ha
 have hd2 : decide (WOk n b) = true := decide_eq_true hb
 have hA : Hid (WOk n a) := ha
 have hB : Hid (WOk n b) := hb
 clear ha hb
 have ix := ixTwo24
 go_enter Tryz.func173, Tryz.ntmps173
 go_wp2_with (first | (go_at_call 148; refine (c_WordOkI _ _ _).mono ?_; rintro e w' ⟨rfl, rfl⟩) | (go_at_call 196; refine (c_twoRules _).mono ?_; rintro e w' ⟨rfl, hG⟩))
 go_quiet (first | (go_at_call 231; exact Calls.quiet_of_same (c_wordMost _ _ _ hA.out hB.out _)) | (go_at_call 195; exact Calls.quiet_of_same (c_ruleWidth _ _ _)))
 go_wp2
 go_ret3
 exact ⟨ret3 rfl rfl rfl, below_drewN (hG.alloc hG.size _) _⟩
theorem ixTwo25 (w : World) : (Instr.index 211 (.agg twoTab) (.int .i64 25)).run Tryz.prog w = .ok (.agg #[.func (.func 232) #[] #[], .bool true]) w := by kernel_rfl
theorem c_WordTwoI25 (n a b : Int) (ha : WOk n a) (hb : WOk n b) (w : World) :
  Calls Tryz.prog 173 #[.int .i64 25, .int .i64 n, .int .i64 a, .int .i64 b] w fun e w' => e = .returned (.tuple #[.int .i64 (twoV 25 n a b), .int .i64 1, .bool true]) ∧ Below w.heap.size w w' := by
 have hd1 : decide (WOk n a) = true := decide_eq_true ha
 have hd2 : decide (WOk n b) = true := decide_eq_true hb
 have hA : Hid (WOk n a) := ha
 have hB : Hid (WOk n b) := hb
 clear ha hb
 have ix := ixTwo25
 go_enter Tryz.func173, Tryz.ntmps173
 go_wp2_with (first | (go_at_call 148; refine (c_WordOkI _ _ _).mono ?_; rintro e w' ⟨rfl, rfl⟩) | (go_at_call 196; refine (c_twoRules _).mono ?_; rintro e w' ⟨rfl, hG⟩))
 go_quiet (first | (go_at_call 232; exact Calls.quiet_of_same (c_wordSmost _ _ _ hA.out hB.out _)) | (go_at_call 195; exact Calls.quiet_of_same (c_ruleWidth _ _ _)))
 go_wp2
 go_ret3
 exact ⟨ret3 rfl rfl rfl, below_drewN (hG.alloc hG.size _) _⟩
theorem ixTwo26 (w : World) : (Instr.index 211 (.agg twoTab) (.int .i64 26)).run Tryz.prog w = .ok (.agg #[.func (.func 233) #[] #[], .bool true]) w := by kernel_rfl
theorem c_WordTwoI26 (n a b : Int) (ha : WOk n a) (hb : WOk n b) (w : World) :
  Calls Tryz.prog 173 #[.int .i64 26, .int .i64 n, .int .i64 a, .int .i64 b] w fun e w' => e = .returned (.tuple #[.int .i64 (twoV 26 n a b), .int .i64 1, .bool true]) ∧ Below w.heap.size w w' := by
 have hd1 : decide (WOk n a) = true := decide_eq_true ha
 have hd2 : decide (WOk n b) = true := decide_eq_true hb
 have hA : Hid (WOk n a) := ha
 have hB : Hid (WOk n b) := hb
 clear ha hb
 have ix := ixTwo26
 go_enter Tryz.func173, Tryz.ntmps173
 go_wp2_with (first | (go_at_call 148; refine (c_WordOkI _ _ _).mono ?_; rintro e w' ⟨rfl, rfl⟩) | (go_at_call 196; refine (c_twoRules _).mono ?_; rintro e w' ⟨rfl, hG⟩))
 go_quiet (first | (go_at_call 233; exact Calls.quiet_of_same (c_wordCarry _ _ _ hA.out hB.out _)) | (go_at_call 195; exact Calls.quiet_of_same (c_ruleWidth _ _ _)))
 go_wp2
 go_ret3
 exact ⟨ret3 rfl rfl rfl, below_drewN (hG.alloc hG.size _) _⟩
theorem ixTwo27 (w : World) : (Instr.index 211 (.agg twoTab) (.int .i64 27)).run Tryz.prog w = .ok (.agg #[.func (.func 234) #[] #[], .bool true]) w := by kernel_rfl
theorem c_WordTwoI27 (n a b : Int) (ha : WOk n a) (hb : WOk n b) (w : World) :
  Calls Tryz.prog 173 #[.int .i64 27, .int .i64 n, .int .i64 a, .int .i64 b] w fun e w' => e = .returned (.tuple #[.int .i64 (twoV 27 n a b), .int .i64 1, .bool true]) ∧ Below w.heap.size w w' := by
 have hd1 : decide (WOk n a) = true := decide_eq_true ha
 have hd2 : decide (WOk n b) = true := decide_eq_true hb
 have hA : Hid (WOk n a) := ha
 have hB : Hid (WOk n b) := hb
 clear ha hb
 have ix := ixTwo27
 go_enter Tryz.func173, Tryz.ntmps173
 go_wp2_with (first | (go_at_call 148; refine (c_WordOkI _ _ _).mono ?_; rintro e w' ⟨rfl, rfl⟩) | (go_at_call 196; refine (c_twoRules _).mono ?_; rintro e w' ⟨rfl, hG⟩))
 go_quiet (first | (go_at_call 234; exact Calls.quiet_of_same (c_wordSover _ _ _ hA.out hB.out _)) | (go_at_call 195; exact Calls.quiet_of_same (c_ruleWidth _ _ _)))
 go_wp2
 go_ret3
 exact ⟨ret3 rfl rfl rfl, below_drewN (hG.alloc hG.size _) _⟩
theorem ixTwo28 (w : World) : (Instr.index 211 (.agg twoTab) (.int .i64 28)).run Tryz.prog w = .ok (.agg #[.func (.func 235) #[] #[], .bool true]) w := by kernel_rfl
theorem c_WordTwoI28 (n a b : Int) (ha : WOk n a) (hb : WOk n b) (w : World) :
  Calls Tryz.prog 173 #[.int .i64 28, .int .i64 n, .int .i64 a, .int .i64 b] w fun e w' => e = .returned (.tuple #[.int .i64 (twoV 28 n a b), .int .i64 1, .bool true]) ∧ Below w.heap.size w w' := by
 have hd1 : decide (WOk n a) = true := decide_eq_true ha
 have hd2 : decide (WOk n b) = true := decide_eq_true hb
 have hA : Hid (WOk n a) := ha
 have hB : Hid (WOk n b) := hb
 clear ha hb
 have ix := ixTwo28
 go_enter Tryz.func173, Tryz.ntmps173
 go_wp2_with (first | (go_at_call 148; refine (c_WordOkI _ _ _).mono ?_; rintro e w' ⟨rfl, rfl⟩) | (go_at_call 196; refine (c_twoRules _).mono ?_; rintro e w' ⟨rfl, hG⟩))
 go_quiet (first | (go_at_call 235; exact Calls.quiet_of_same (c_wordMover _ _ _ hA.out hB.out _)) | (go_at_call 195; exact Calls.quiet_of_same (c_ruleWidth _ _ _)))
 go_wp2
 go_ret3
 exact ⟨ret3 rfl rfl rfl, below_drewN (hG.alloc hG.size _) _⟩
end Go.Proofs.YtlcgimadbpagfaaGreat
namespace Go.Proofs.YtlcgimadbpagfaaGreat
open Go.Lib
open Go.ChangeShapes Go.WideShapes Go.ChangeAt Go.RowKit
set_option linter.unusedVariables false
theorem sum_wrap {n V z : Int} {k : Nat} (hV : WOk n V) (hk : (k : Int) < n) (hz : z = V / 2 ^ k % 2) :
  wrap64 (V % 2 ^ k + wrap64 (z * 2 ^ k)) = V % 2 ^ (k + 1) := by
 have h2 := hV.2.1
 have hp := p2_pos k
 have hle : (2 : Int) ^ k ≤ 65536 := by have := p2_mono (i := k) (j := 16) (by omega); simpa using this
 have hl := mod_lt V k
 have hn := mod_nonneg V k
 have hb : 0 ≤ z * 2 ^ k ∧ z * 2 ^ k ≤ 65536 := by
  rcases (by omega : z = 0 ∨ z = 1) with e | e <;> rw [e] <;> omega
 rw [IntWalk.wrap64_in (z * 2 ^ k) (by omega), IntWalk.wrap64_in _ (by omega), mod_succ', hz]
theorem sum_wrap0 {n V : Int} {k : Nat} (hV : WOk n V) (hk : (k : Int) < n) (hz : V / 2 ^ k % 2 = 0) : wrap64 (V % 2 ^ k) = V % 2 ^ (k + 1) := by
 have h2 := hV.2.1
 have hle : (2 : Int) ^ k ≤ 65536 := by have := p2_mono (i := k) (j := 16) (by omega); simpa using this
 have hl := mod_lt V k
 have hn := mod_nonneg V k
 rw [IntWalk.wrap64_in _ (by omega), mod_succ', hz]; omega
theorem shl_z1 {n a b : Int} {k : Nat} (h1 : 1 ≤ n) (h2 : n ≤ 16) (hB : 0 ≤ b) (hk : (k : Int) < n) (hc : b ≤ k) : a / 2 ^ ((k : Int) - b).toNat % 2 = vShl n a b / 2 ^ k % 2 := by
 unfold vShl; rw [bit_shl _ _ h1 h2 (by omega), if_pos (by omega), show ((k : Int) - b).toNat = k - b.toNat by omega]
theorem shl_z0 {n a b : Int} {k : Nat} (h1 : 1 ≤ n) (h2 : n ≤ 16) (hk : (k : Int) < n) (hc : ¬ b ≤ k) : vShl n a b / 2 ^ k % 2 = 0 := by
 unfold vShl; rw [bit_shl _ _ h1 h2 (by omega), if_neg (by omega)]
theorem shr_z1 {a b : Int} {k : Nat} (hB : 0 ≤ b) : a / 2 ^ ((k : Int) + b).toNat % 2 = vShr a b / 2 ^ k % 2 := by
 unfold vShr; rw [bit_shr, show ((k : Int) + b).toNat = k + b.toNat by omega]
theorem shr_z0 {n a b : Int} {k : Nat} (h : WOk n a) (hB : 0 ≤ b) (hc : n ≤ (k : Int) + b) : vShr a b / 2 ^ k % 2 = 0 := by
 have := h.1
 unfold vShr; rw [bit_shr, bit_high h (by omega)]
theorem sar_z1 {n a b : Int} {k : Nat} (h : WOk n a) (hB : 0 ≤ b) (hk : (k : Int) < n) (hc : (k : Int) + b < n) : a / 2 ^ ((k : Int) + b).toNat % 2 = vSar n a b / 2 ^ k % 2 := by
 unfold vSar; rw [bit_sar h _ _ (by omega), if_pos (by omega), show ((k : Int) + b).toNat = k + b.toNat by omega]
theorem sar_z2 {n a b : Int} {k : Nat} (h : WOk n a) (hB : 0 ≤ b) (hk : (k : Int) < n) (hc : n ≤ (k : Int) + b) : a / 2 ^ (n.toNat - 1) % 2 = vSar n a b / 2 ^ k % 2 := by
 unfold vSar; rw [bit_sar h _ _ (by omega), if_neg (by omega)]
theorem shr_ok {n a b : Int} (ha : WOk n a) (hb : WOk n b) : WOk n (vShr a b) := by
 have h := div_bound ha.2.2.1 ha.lt (b := 2 ^ b.toNat) (Int.le_of_lt (p2_pos _))
 refine ⟨ha.1, ha.2.1, h.1, Int.lt_of_le_of_lt (Int.ediv_le_self _ ha.2.2.1) ha.2.2.2⟩
theorem c_l1Each6 (n a b : Int) (ha : WOk n a) (hb : WOk n b) (w : World) :
  Calls Tryz.prog 166 #[.int .i64 6, .int .i64 n, .int .i64 a, .int .i64 b] w fun e w' => e = .returned (.int .i64 (vAnd a b)) ∧ w' = w := by
 have h1 := ha.1; have h2 := ha.2.1
 have hV : Hid (WOk n (vAnd a b)) := vAnd_ok ha hb
 have hA := ha.2.2.1; have hB := hb.2.2.1
 clear ha hb
 go_enter Tryz.func166, Tryz.ntmps166
 go_wp2
 go_loop [9, 10] (fun t i => ∃ k : Nat, (k : Int) ≤ n ∧ i = .int .i64 k ∧ t = .int .i64 (vAnd a b % 2 ^ k)) (fun _ i => (n - intOf i).toNat)
 case atStart => exact ⟨0, by omega, rfl, by simp [Int.emod_one]⟩
 case round =>
  obtain ⟨k, hk, rfl, rfl⟩ := hrel
  have hx : 0 ≤ a / 2 ^ k % 2 ∧ a / 2 ^ k % 2 < 2 := by omega
  have hy : 0 ≤ b / 2 ^ k % 2 ∧ b / 2 ^ k % 2 < 2 := by omega
  go_wp2_with (go_at_call 193; refine (c_l1Bit _ _ (by omega) (by omega) (by omega) _).mono ?_; rintro e w' ⟨rfl, rfl⟩)
  ·have hlt : (k : Int) < n := by assumption
   go_round
   case rel =>
    refine ⟨k + 1, by omega, by go_num, congrArg (Value.int .i64) (sum_wrap hV.out hlt ?_)⟩
    rw [bit_vAnd hA hB]
    generalize a / 2 ^ k % 2 = x at *
    generalize b / 2 ^ k % 2 = y at *
    rcases (by omega : x = 0 ∨ x = 1) with rfl | rfl <;> rcases (by omega : y = 0 ∨ y = 1) with rfl | rfl <;> (unfold wrap64; omega)
   case measure => simp [intOf]; omega
  ·have hkn : k = n.toNat := by omega
   subst hkn
   go_ret
   exact ⟨ret_int (mod_small hV.out.2.2.1 hV.out.2.2.2), rfl⟩
theorem c_l1Each7 (n a b : Int) (ha : WOk n a) (hb : WOk n b) (w : World) :
  Calls Tryz.prog 166 #[.int .i64 7, .int .i64 n, .int .i64 a, .int .i64 b] w fun e w' => e = .returned (.int .i64 (vOr a b)) ∧ w' = w := by
 have h1 := ha.1; have h2 := ha.2.1
 have hV : Hid (WOk n (vOr a b)) := vOr_ok ha hb
 have hA := ha.2.2.1; have hB := hb.2.2.1
 clear ha hb
 go_enter Tryz.func166, Tryz.ntmps166
 go_wp2
 go_loop [9, 10] (fun t i => ∃ k : Nat, (k : Int) ≤ n ∧ i = .int .i64 k ∧ t = .int .i64 (vOr a b % 2 ^ k)) (fun _ i => (n - intOf i).toNat)
 case atStart => exact ⟨0, by omega, rfl, by simp [Int.emod_one]⟩
 case round =>
  obtain ⟨k, hk, rfl, rfl⟩ := hrel
  have hx : 0 ≤ a / 2 ^ k % 2 ∧ a / 2 ^ k % 2 < 2 := by omega
  have hy : 0 ≤ b / 2 ^ k % 2 ∧ b / 2 ^ k % 2 < 2 := by omega
  go_wp2_with (go_at_call 193; refine (c_l1Bit _ _ (by omega) (by omega) (by omega) _).mono ?_; rintro e w' ⟨rfl, rfl⟩)
  ·have hlt : (k : Int) < n := by assumption
   go_round
   case rel =>
    refine ⟨k + 1, by omega, by go_num, congrArg (Value.int .i64) (sum_wrap hV.out hlt ?_)⟩
    rw [bit_vOr hA hB]
    generalize a / 2 ^ k % 2 = x at *
    generalize b / 2 ^ k % 2 = y at *
    rcases (by omega : x = 0 ∨ x = 1) with rfl | rfl <;> rcases (by omega : y = 0 ∨ y = 1) with rfl | rfl <;> (unfold wrap64; omega)
   case measure => simp [intOf]; omega
  ·have hkn : k = n.toNat := by omega
   subst hkn
   go_ret
   exact ⟨ret_int (mod_small hV.out.2.2.1 hV.out.2.2.2), rfl⟩
theorem c_l1Each8 (n a b : Int) (ha : WOk n a) (hb : WOk n b) (w : World) :
  Calls Tryz.prog 166 #[.int .i64 8, .int .i64 n, .int .i64 a, .int .i64 b] w fun e w' => e = .returned (.int .i64 (vXor a b)) ∧ w' = w := by
 have h1 := ha.1; have h2 := ha.2.1
 have hV : Hid (WOk n (vXor a b)) := vXor_ok ha hb
 have hA := ha.2.2.1; have hB := hb.2.2.1
 clear ha hb
 go_enter Tryz.func166, Tryz.ntmps166
 go_wp2
 go_loop [9, 10] (fun t i => ∃ k : Nat, (k : Int) ≤ n ∧ i = .int .i64 k ∧ t = .int .i64 (vXor a b % 2 ^ k)) (fun _ i => (n - intOf i).toNat)
 case atStart => exact ⟨0, by omega, rfl, by simp [Int.emod_one]⟩
 case round =>
  obtain ⟨k, hk, rfl, rfl⟩ := hrel
  have hx : 0 ≤ a / 2 ^ k % 2 ∧ a / 2 ^ k % 2 < 2 := by omega
  have hy : 0 ≤ b / 2 ^ k % 2 ∧ b / 2 ^ k % 2 < 2 := by omega
  go_wp2_with (go_at_call 193; refine (c_l1Bit _ _ (by omega) (by omega) (by omega) _).mono ?_; rintro e w' ⟨rfl, rfl⟩)
  ·have hlt : (k : Int) < n := by assumption
   go_round
   case rel =>
    refine ⟨k + 1, by omega, by go_num, congrArg (Value.int .i64) (sum_wrap hV.out hlt ?_)⟩
    rw [bit_vXor hA hB]
    omega
   case measure => simp [intOf]; omega
  ·have hkn : k = n.toNat := by omega
   subst hkn
   go_ret
   exact ⟨ret_int (mod_small hV.out.2.2.1 hV.out.2.2.2), rfl⟩
theorem c_l1Shift16 (n a b : Int) (ha : WOk n a) (hb : WOk n b) (w : World) :
  Calls Tryz.prog 169 #[.int .i64 16, .int .i64 n, .int .i64 a, .int .i64 b] w fun e w' => e = .returned (.int .i64 (vShl n a b)) ∧ w' = w := by
 have h1 := ha.1; have h2 := ha.2.1
 have hV : Hid (WOk n (vShl n a b)) := frm_ok _ ha.1 ha.2.1
 have hA := ha.2.2.1; have hB := hb.2.2.1; have hB2 := hb.lt
 have HA : Hid (WOk n a) := ha
 clear ha hb
 go_enter Tryz.func169, Tryz.ntmps169
 go_wp2
 go_loop [9, 10] (fun t i => ∃ k : Nat, (k : Int) ≤ n ∧ i = .int .i64 k ∧ t = .int .i64 ((vShl n a b) % 2 ^ k)) (fun _ i => (n - intOf i).toNat)
 case atStart => exact ⟨0, by omega, rfl, by simp [Int.emod_one]⟩
 case round =>
  obtain ⟨k, hk, rfl, rfl⟩ := hrel
  have hw1 : wrap64 (n - 1) = n - 1 := IntWalk.wrap64_in _ (by omega)
  go_wp2_with (go_at_call 193; refine (c_l1Bit _ _ (by omega) (by omega) (by omega) _).mono ?_; rintro e w' ⟨rfl, rfl⟩)
  ·have hlt : (k : Int) < n := by assumption
   go_round
   case rel => exact ⟨k + 1, by omega, by go_num, congrArg (Value.int .i64) (sum_wrap hV.out hlt (shl_z1 h1 h2 hB hlt (by omega)))⟩
   case measure => simp [intOf]; omega
  ·have hlt : (k : Int) < n := by assumption
   go_round
   case rel => exact ⟨k + 1, by omega, by go_num, congrArg (Value.int .i64) (sum_wrap0 hV.out hlt (shl_z0 h1 h2 hlt (by omega)))⟩
   case measure => simp [intOf]; omega
  ·have hkn : k = n.toNat := by omega
   subst hkn
   go_ret
   exact ⟨ret_int (mod_small hV.out.2.2.1 hV.out.2.2.2), rfl⟩
theorem c_l1Shift17 (n a b : Int) (ha : WOk n a) (hb : WOk n b) (w : World) :
  Calls Tryz.prog 169 #[.int .i64 17, .int .i64 n, .int .i64 a, .int .i64 b] w fun e w' => e = .returned (.int .i64 (vShr a b)) ∧ w' = w := by
 have h1 := ha.1; have h2 := ha.2.1
 have hV : Hid (WOk n (vShr a b)) := shr_ok ha hb
 have hA := ha.2.2.1; have hB := hb.2.2.1; have hB2 := hb.lt
 have HA : Hid (WOk n a) := ha
 clear ha hb
 go_enter Tryz.func169, Tryz.ntmps169
 go_wp2
 go_loop [9, 10] (fun t i => ∃ k : Nat, (k : Int) ≤ n ∧ i = .int .i64 k ∧ t = .int .i64 ((vShr a b) % 2 ^ k)) (fun _ i => (n - intOf i).toNat)
 case atStart => exact ⟨0, by omega, rfl, by simp [Int.emod_one]⟩
 case round =>
  obtain ⟨k, hk, rfl, rfl⟩ := hrel
  have hw1 : wrap64 (n - 1) = n - 1 := IntWalk.wrap64_in _ (by omega)
  go_wp2_with (go_at_call 193; refine (c_l1Bit _ _ (by omega) (by omega) (by omega) _).mono ?_; rintro e w' ⟨rfl, rfl⟩)
  ·have hlt : (k : Int) < n := by assumption
   go_round
   case rel => exact ⟨k + 1, by omega, by go_num, congrArg (Value.int .i64) (sum_wrap hV.out hlt (shr_z1 hB))⟩
   case measure => simp [intOf]; omega
  ·have hlt : (k : Int) < n := by assumption
   go_round
   case rel => exact ⟨k + 1, by omega, by go_num, congrArg (Value.int .i64) (sum_wrap0 hV.out hlt (shr_z0 HA.out hB (by omega)))⟩
   case measure => simp [intOf]; omega
  ·have hkn : k = n.toNat := by omega
   subst hkn
   go_ret
   exact ⟨ret_int (mod_small hV.out.2.2.1 hV.out.2.2.2), rfl⟩
theorem c_l1Shift18 (n a b : Int) (ha : WOk n a) (hb : WOk n b) (w : World) :
  Calls Tryz.prog 169 #[.int .i64 18, .int .i64 n, .int .i64 a, .int .i64 b] w fun e w' => e = .returned (.int .i64 (vSar n a b)) ∧ w' = w := by
 have h1 := ha.1; have h2 := ha.2.1
 have hV : Hid (WOk n (vSar n a b)) := frm_ok _ ha.1 ha.2.1
 have hA := ha.2.2.1; have hB := hb.2.2.1; have hB2 := hb.lt
 have HA : Hid (WOk n a) := ha
 clear ha hb
 go_enter Tryz.func169, Tryz.ntmps169
 go_wp2
 go_loop [9, 10] (fun t i => ∃ k : Nat, (k : Int) ≤ n ∧ i = .int .i64 k ∧ t = .int .i64 ((vSar n a b) % 2 ^ k)) (fun _ i => (n - intOf i).toNat)
 case atStart => exact ⟨0, by omega, rfl, by simp [Int.emod_one]⟩
 case round =>
  obtain ⟨k, hk, rfl, rfl⟩ := hrel
  have hw1 : wrap64 (n - 1) = n - 1 := IntWalk.wrap64_in _ (by omega)
  go_wp2_with (go_at_call 193; refine (c_l1Bit _ _ (by omega) (by omega) (by omega) _).mono ?_; rintro e w' ⟨rfl, rfl⟩)
  ·have hlt : (k : Int) < n := by assumption
   go_round
   case rel => exact ⟨k + 1, by omega, by go_num, congrArg (Value.int .i64) (sum_wrap hV.out hlt (sar_z1 HA.out hB hlt (by omega)))⟩
   case measure => simp [intOf]; omega
  ·have hlt : (k : Int) < n := by assumption
   go_round
   case rel => exact ⟨k + 1, by omega, by go_num, congrArg (Value.int .i64) (sum_wrap hV.out hlt (sar_z2 HA.out hB hlt (by omega)))⟩
   case measure => simp [intOf]; omega
  ·have hkn : k = n.toNat := by omega
   subst hkn
   go_ret
   exact ⟨ret_int (mod_small hV.out.2.2.1 hV.out.2.2.2), rfl⟩
theorem turn_step {n a B : Int} {k : Nat} (h : WOk n a) (hk : (k : Int) < n) :
  wrap64 (turnAt n.toNat (B % n).toNat k a + wrap64 (a / 2 ^ k % 2 * 2 ^ (((k : Int) + B) % n).toNat)) = turnAt n.toNat (B % n).toNat (k + 1) a := by
 have h1 := h.1
 have h2 := h.2.1
 have hr : (B % n).toNat < n.toNat := by
  have := Int.emod_nonneg B (b := n) (by omega); have := Int.emod_lt_of_pos B (b := n) (by omega); omega
 have hp : (((k : Int) + B) % n).toNat < 16 := by
  have := Int.emod_lt_of_pos ((k : Int) + B) (b := n) (by omega); have := Int.emod_nonneg ((k : Int) + B) (b := n) (by omega); omega
 have hle : (2 : Int) ^ (((k : Int) + B) % n).toNat ≤ 65536 := by
  have := p2_mono (i := (((k : Int) + B) % n).toNat) (j := 16) (by omega); simpa using this
 have hpp := p2_pos (((k : Int) + B) % n).toNat
 have hb : 0 ≤ a / 2 ^ k % 2 * 2 ^ (((k : Int) + B) % n).toNat ∧ a / 2 ^ k % 2 * 2 ^ (((k : Int) + B) % n).toNat ≤ 65536 := by
  rcases (by omega : a / 2 ^ k % 2 = 0 ∨ a / 2 ^ k % 2 = 1) with e | e <;> rw [e] <;> omega
 have hlt := turnAt_lt hr (k := k) (by omega) a
 have hn0 := turnAt_nonneg n.toNat (B % n).toNat k a
 have hn16 := p2_le h2
 rw [IntWalk.wrap64_in (a / 2 ^ k % 2 * 2 ^ (((k : Int) + B) % n).toNat) (by omega), IntWalk.wrap64_in _ (by omega), turnAt_succ hr, ← spot_eq h1 hk]
theorem c_l1Turn19 (n a b : Int) (ha : WOk n a) (hb : WOk n b) (w : World) :
  Calls Tryz.prog 170 #[.int .i64 19, .int .i64 n, .int .i64 a, .int .i64 b] w fun e w' => e = .returned (.int .i64 (vRol n a b)) ∧ ∃ m, w' = w.drewN m := by
 have h1 := ha.1; have h2 := ha.2.1
 have hA0 := ha.2.2.1; have hB := hb.2.2.1
 have hne : ¬ n = 0 := by omega
 have htb : b.tmod n = b % n := Int.tmod_eq_emod_of_nonneg hB
 have hm1 := Int.emod_nonneg b (b := n) (by omega)
 have hm2 := Int.emod_lt_of_pos b (b := n) (by omega)
 have hr0 : ((b) % n).toNat < n.toNat := by
  have := Int.emod_nonneg (b) (b := n) (by omega); have := Int.emod_lt_of_pos (b) (b := n) (by omega); omega
 have hA : Hid (WOk n a) := ha
 have hr : Hid (((b) % n).toNat < n.toNat) := hr0
 clear ha hb hr0
 go_enter Tryz.func170, Tryz.ntmps170
 go_wp2
 go_loopw [9, 10] (fun t i wr => ∃ k : Nat, (k : Int) ≤ n ∧ i = .int .i64 k ∧ t = .int .i64 (turnAt n.toNat ((b) % n).toNat k a) ∧ ∃ m, wr = w.drewN m) (fun _ i _ => (n - intOf i).toNat)
 case atStart => exact ⟨0, by omega, rfl, by rw [turnAt_zero], 0, rfl⟩
 case round =>
  obtain ⟨k, hk, rfl, rfl, m, hm⟩ := hrel
  have hM : Hid (wr = w.drewN m) := hm
  clear hm
  by_cases hlt : (k : Int) < n
  ·have hw1 : wrap64 ((k : Int) + b % n) = k + b % n := IntWalk.wrap64_in _ (by omega)
   have ht : ((k : Int) + b % n).tmod n = (k + b) % n := by rw [Int.tmod_eq_emod_of_nonneg (by omega), Int.add_emod_emod]
   have hq1 := Int.emod_nonneg ((k : Int) + b) (b := n) (by omega)
   have hq2 := Int.emod_lt_of_pos ((k : Int) + b) (b := n) (by omega)
   go_wp2
   go_quiet (first | (go_at_call 193; exact Calls.quiet_of_same (c_l1Bit _ _ hA0 (by omega) (by omega) _)))
   go_wp2
   go_roundw
   case rel =>
    refine ⟨k + 1, by omega, by go_num, ?_, m + nq, by rw [hM.out, World.drewN_drewN]⟩
    refine congrArg (Value.int .i64) ?_
    exact turn_step (B := b) hA.out hlt
   case measure => simp [intOf]; omega
  ·have hkn : k = n.toNat := by omega
   subst hkn
   go_wp2
   go_ret
   exact ⟨ret_int ((turnAt_all hr.out hA.out.2.2.1 hA.out.2.2.2).trans rfl), m, hM.out⟩
theorem c_l1Turn20 (n a b : Int) (ha : WOk n a) (hb : WOk n b) (w : World) :
  Calls Tryz.prog 170 #[.int .i64 20, .int .i64 n, .int .i64 a, .int .i64 b] w fun e w' => e = .returned (.int .i64 (vRor n a b)) ∧ ∃ m, w' = w.drewN m := by
 have h1 := ha.1; have h2 := ha.2.1
 have hA0 := ha.2.2.1; have hB := hb.2.2.1
 have hne : ¬ n = 0 := by omega
 have htb : b.tmod n = b % n := Int.tmod_eq_emod_of_nonneg hB
 have hm1 := Int.emod_nonneg b (b := n) (by omega)
 have hm2 := Int.emod_lt_of_pos b (b := n) (by omega)
 have hr0 : ((n - b % n) % n).toNat < n.toNat := by
  have := Int.emod_nonneg (n - b % n) (b := n) (by omega); have := Int.emod_lt_of_pos (n - b % n) (b := n) (by omega); omega
 have hA : Hid (WOk n a) := ha
 have hr : Hid (((n - b % n) % n).toNat < n.toNat) := hr0
 obtain ⟨R, hR⟩ : ∃ R, Hid (R = ((n - b % n) % n).toNat) := ⟨_, rfl⟩
 clear ha hb hr0
 go_enter Tryz.func170, Tryz.ntmps170
 go_wp2
 go_loopw [9, 10] (fun t i wr => ∃ k : Nat, (k : Int) ≤ n ∧ i = .int .i64 k ∧ t = .int .i64 (turnAt n.toNat R k a) ∧ ∃ m, wr = w.drewN m) (fun _ i _ => (n - intOf i).toNat)
 case atStart => exact ⟨0, by omega, rfl, by rw [turnAt_zero], 0, rfl⟩
 case round =>
  obtain ⟨k, hk, rfl, rfl, m, hm⟩ := hrel
  have hM : Hid (wr = w.drewN m) := hm
  clear hm
  by_cases hlt : (k : Int) < n
  ·have hw1 : wrap64 ((k : Int) + n) = k + n := IntWalk.wrap64_in _ (by omega)
   have hw2 : wrap64 ((k : Int) + n - b % n) = k + n - b % n := IntWalk.wrap64_in _ (by omega)
   have hw3 : wrap64 ((k : Int) + b % n) = k + b % n := IntWalk.wrap64_in _ (by omega)
   have ht : ((k : Int) + n - b % n).tmod n = (k + (n - b % n)) % n := by rw [Int.tmod_eq_emod_of_nonneg (by omega), Int.add_sub_assoc]
   have hq1 := Int.emod_nonneg ((k : Int) + (n - b % n)) (b := n) (by omega)
   have hq2 := Int.emod_lt_of_pos ((k : Int) + (n - b % n)) (b := n) (by omega)
   go_wp2
   go_quiet (first | (go_at_call 193; exact Calls.quiet_of_same (c_l1Bit _ _ hA0 (by omega) (by omega) _)))
   go_wp2
   go_roundw
   case rel =>
    refine ⟨k + 1, by omega, by go_num, ?_, m + nq, by rw [hM.out, World.drewN_drewN]⟩
    refine congrArg (Value.int .i64) ?_
    rw [hR.out]
    exact turn_step (B := n - b % n) hA.out hlt
   case measure => simp [intOf]; omega
  ·have hkn : k = n.toNat := by omega
   subst hkn
   go_wp2
   go_ret
   exact ⟨ret_int (by rw [hR.out]; exact turnAt_all hr.out hA.out.2.2.1 hA.out.2.2.2), m, hM.out⟩
theorem c_l1Div12 (n a b : Int) (ha : WOk n a) (hb : WOk n b) (w : World) :
  Calls Tryz.prog 167 #[.int .i64 12, .int .i64 n, .int .i64 a, .int .i64 b] w fun e w' => e = .returned (.int .i64 (vDiv n a b)) ∧ w' = w := by
 by_cases h0 : b = 0
 ·subst h0
  have hw1 := wrap_p2 ha.2.1
  have hw2 := wrap_p2m ha.2.1
  have h1 := ha.1; have h2 := ha.2.1
  clear ha hb
  go_enter Tryz.func167, Tryz.ntmps167
  go_wp2
  go_ret
  exact ⟨ret_int (by unfold vDiv; rw [if_pos rfl, hw2]), rfl⟩
 ·have hB : Hid _ := div_bound ha.2.2.1 ha.lt hb.2.2.1
  have h1 := ha.2.2.1
  have e : a.tdiv b = a / b := Int.tdiv_eq_ediv_of_nonneg h1
  have hw : wrap64 (a / b) = a / b := by have := hB.out; exact IntWalk.wrap64_in _ (by omega)
  clear ha hb
  go_enter Tryz.func167, Tryz.ntmps167
  go_wp2
  go_ret
  exact ⟨ret_int (by unfold vDiv; rw [if_neg h0]; exact hw), rfl⟩
theorem c_l1Div13 (n a b : Int) (ha : WOk n a) (hb : WOk n b) (w : World) :
  Calls Tryz.prog 167 #[.int .i64 13, .int .i64 n, .int .i64 a, .int .i64 b] w fun e w' => e = .returned (.int .i64 (vRem a b)) ∧ w' = w := by
 by_cases h0 : b = 0
 ·subst h0
  clear ha hb
  go_enter Tryz.func167, Tryz.ntmps167
  go_wp2
  go_ret
  exact ⟨ret_int (if_pos rfl).symm, rfl⟩
 ·have h1 := ha.2.2.1
  have e : a.tmod b = a % b := Int.tmod_eq_emod_of_nonneg h1
  clear ha hb
  go_enter Tryz.func167, Tryz.ntmps167
  go_wp2
  go_ret
  exact ⟨ret_int (by unfold vRem; rw [if_neg h0]), rfl⟩
theorem c_l1Sdiv14 (n a b : Int) (ha : WOk n a) (hb : WOk n b) (w : World) :
  Calls Tryz.prog 168 #[.int .i64 14, .int .i64 n, .int .i64 a, .int .i64 b] w fun e w' => e = .returned (.int .i64 (vSdiv n a b)) ∧ w' = w := by
 have h1 := ha.1; have h2 := ha.2.1
 have hw1 := wrap_p2 ha.2.1
 have hw2 := wrap_p2m ha.2.1
 by_cases h0 : b = 0
 ·subst h0
  have hz : sgn n 0 = 0 := sgn_zero
  clear ha hb
  by_cases hs : sgn n a < 0
  ·go_enter Tryz.func168, Tryz.ntmps168
   go_wp2_with (first | (go_at_call 163; refine (c_WordSignedS _ _ _).mono ?_; rintro e w' ⟨rfl, rfl⟩))
   go_ret
   exact ⟨ret_int (by unfold vSdiv; rw [if_pos rfl, if_pos hs]), rfl⟩
  ·go_enter Tryz.func168, Tryz.ntmps168
   go_wp2_with (first | (go_at_call 163; refine (c_WordSignedS _ _ _).mono ?_; rintro e w' ⟨rfl, rfl⟩))
   go_ret
   exact ⟨ret_int (by unfold vSdiv; rw [if_pos rfl, if_neg (by omega), hw2]), rfl⟩
 ·have hne : ¬ sgn n b = 0 := sgn_ne_zero hb h0
  have hne' : (sgn n b == 0) = false := by simp; exact hne
  clear ha hb
  go_enter Tryz.func168, Tryz.ntmps168
  go_wp2_with (first | (go_at_call 163; refine (c_WordSignedS _ _ _).mono ?_; rintro e w' ⟨rfl, rfl⟩) | (go_at_call 162; refine (c_WordFromS _ _ _).mono ?_; rintro e w' ⟨rfl, rfl⟩))
  go_ret
  exact ⟨ret_int (by unfold vSdiv; rw [if_neg h0]; first | exact frm_wrap _ _ | rfl), rfl⟩
theorem c_l1Sdiv15 (n a b : Int) (ha : WOk n a) (hb : WOk n b) (w : World) :
  Calls Tryz.prog 168 #[.int .i64 15, .int .i64 n, .int .i64 a, .int .i64 b] w fun e w' => e = .returned (.int .i64 (vSrem n a b)) ∧ w' = w := by
 by_cases h0 : b = 0
 ·subst h0
  have hz : sgn n 0 = 0 := sgn_zero
  clear ha hb
  go_enter Tryz.func168, Tryz.ntmps168
  go_wp2_with (first | (go_at_call 163; refine (c_WordSignedS _ _ _).mono ?_; rintro e w' ⟨rfl, rfl⟩))
  go_ret
  exact ⟨ret_int (by unfold vSrem; rw [if_pos rfl]), rfl⟩
 ·have hne : ¬ sgn n b = 0 := sgn_ne_zero hb h0
  have hne' : (sgn n b == 0) = false := by simp; exact hne
  clear ha hb
  go_enter Tryz.func168, Tryz.ntmps168
  go_wp2_with (first | (go_at_call 163; refine (c_WordSignedS _ _ _).mono ?_; rintro e w' ⟨rfl, rfl⟩) | (go_at_call 162; refine (c_WordFromS _ _ _).mono ?_; rintro e w' ⟨rfl, rfl⟩))
  go_ret
  exact ⟨ret_int (by unfold vSrem; rw [if_neg h0]), rfl⟩
theorem ret2b {a a' b b' : Bool} (h1 : a = a') (h2 : b = b') : Ending.returned (.tuple #[.bool a, .bool b]) = Ending.returned (.tuple #[.bool a', .bool b']) := by rw [h1, h2]
theorem not_ok_iff {n x : Int} (h1 : 1 ≤ n) (h2 : n ≤ 16) (hx : 0 ≤ x) : ¬ WOk n x ↔ 2 ^ n.toNat ≤ x := by
 unfold WOk; omega
theorem c_l1Says21 (n a b : Int) (ha : WOk n a) (hb : WOk n b) (w : World) :
  Calls Tryz.prog 165 #[.int .i64 21, .int .i64 n, .int .i64 a, .int .i64 b] w fun e w' => e = .returned (.tuple #[.bool (decide (a = b)), .bool true]) ∧ w' = w := by
 clear ha hb
 go_enter Tryz.func165, Tryz.ntmps165
 go_wp2_with (first | (go_at_call 163; refine (c_WordSignedS _ _ _).mono ?_; rintro e w' ⟨rfl, rfl⟩) | (go_at_call 162; refine (c_WordFromS _ _ _).mono ?_; rintro e w' ⟨rfl, rfl⟩) | (go_at_call 121; refine (c_WordOkS _ _ _).mono ?_; rintro e w' ⟨rfl, rfl⟩))
 go_ret2
 exact ⟨ret2b rfl rfl, rfl⟩
theorem c_l1Says22 (n a b : Int) (ha : WOk n a) (hb : WOk n b) (w : World) :
  Calls Tryz.prog 165 #[.int .i64 22, .int .i64 n, .int .i64 a, .int .i64 b] w fun e w' => e = .returned (.tuple #[.bool (decide (a < b)), .bool true]) ∧ w' = w := by
 clear ha hb
 go_enter Tryz.func165, Tryz.ntmps165
 go_wp2_with (first | (go_at_call 163; refine (c_WordSignedS _ _ _).mono ?_; rintro e w' ⟨rfl, rfl⟩) | (go_at_call 162; refine (c_WordFromS _ _ _).mono ?_; rintro e w' ⟨rfl, rfl⟩) | (go_at_call 121; refine (c_WordOkS _ _ _).mono ?_; rintro e w' ⟨rfl, rfl⟩))
 go_ret2
 exact ⟨ret2b rfl rfl, rfl⟩
theorem c_l1Says23 (n a b : Int) (ha : WOk n a) (hb : WOk n b) (w : World) :
  Calls Tryz.prog 165 #[.int .i64 23, .int .i64 n, .int .i64 a, .int .i64 b] w fun e w' => e = .returned (.tuple #[.bool (decide (sgn n a < sgn n b)), .bool true]) ∧ w' = w := by
 clear ha hb
 go_enter Tryz.func165, Tryz.ntmps165
 go_wp2_with (first | (go_at_call 163; refine (c_WordSignedS _ _ _).mono ?_; rintro e w' ⟨rfl, rfl⟩) | (go_at_call 162; refine (c_WordFromS _ _ _).mono ?_; rintro e w' ⟨rfl, rfl⟩) | (go_at_call 121; refine (c_WordOkS _ _ _).mono ?_; rintro e w' ⟨rfl, rfl⟩))
 go_ret2
 exact ⟨ret2b rfl rfl, rfl⟩
theorem c_l1Says24 (n a b : Int) (ha : WOk n a) (hb : WOk n b) (w : World) :
  Calls Tryz.prog 165 #[.int .i64 24, .int .i64 n, .int .i64 a, .int .i64 b] w fun e w' => e = .returned (.tuple #[.bool (decide (a ≤ b)), .bool true]) ∧ w' = w := by
 clear ha hb
 go_enter Tryz.func165, Tryz.ntmps165
 go_wp2_with (first | (go_at_call 163; refine (c_WordSignedS _ _ _).mono ?_; rintro e w' ⟨rfl, rfl⟩) | (go_at_call 162; refine (c_WordFromS _ _ _).mono ?_; rintro e w' ⟨rfl, rfl⟩) | (go_at_call 121; refine (c_WordOkS _ _ _).mono ?_; rintro e w' ⟨rfl, rfl⟩))
 go_ret2
 exact ⟨ret2b rfl rfl, rfl⟩
theorem c_l1Says25 (n a b : Int) (ha : WOk n a) (hb : WOk n b) (w : World) :
  Calls Tryz.prog 165 #[.int .i64 25, .int .i64 n, .int .i64 a, .int .i64 b] w fun e w' => e = .returned (.tuple #[.bool (decide (sgn n a ≤ sgn n b)), .bool true]) ∧ w' = w := by
 clear ha hb
 go_enter Tryz.func165, Tryz.ntmps165
 go_wp2_with (first | (go_at_call 163; refine (c_WordSignedS _ _ _).mono ?_; rintro e w' ⟨rfl, rfl⟩) | (go_at_call 162; refine (c_WordFromS _ _ _).mono ?_; rintro e w' ⟨rfl, rfl⟩) | (go_at_call 121; refine (c_WordOkS _ _ _).mono ?_; rintro e w' ⟨rfl, rfl⟩))
 go_ret2
 exact ⟨ret2b rfl rfl, rfl⟩
theorem c_l1Says26 (n a b : Int) (ha : WOk n a) (hb : WOk n b) (w : World) :
  Calls Tryz.prog 165 #[.int .i64 26, .int .i64 n, .int .i64 a, .int .i64 b] w fun e w' => e = .returned (.tuple #[.bool (decide (2 ^ n.toNat ≤ a + b)), .bool true]) ∧ w' = w := by
 have hw : wrap64 (a + b) = a + b := by have := ha.lt; have := hb.lt; have := ha.2.2.1; have := hb.2.2.1; exact IntWalk.wrap64_in _ (by omega)
 have hi : Hid _ := not_ok_iff ha.1 ha.2.1 (x := a + b) (by have := ha.2.2.1; have := hb.2.2.1; omega)
 clear ha hb
 go_enter Tryz.func165, Tryz.ntmps165
 go_wp2_with (first | (go_at_call 163; refine (c_WordSignedS _ _ _).mono ?_; rintro e w' ⟨rfl, rfl⟩) | (go_at_call 162; refine (c_WordFromS _ _ _).mono ?_; rintro e w' ⟨rfl, rfl⟩) | (go_at_call 121; refine (c_WordOkS _ _ _).mono ?_; rintro e w' ⟨rfl, rfl⟩))
 go_ret2
 exact ⟨ret2b (by rw [Bool.eq_iff_iff]; simp [← hi.out]) rfl, rfl⟩
theorem c_l1Says27 (n a b : Int) (ha : WOk n a) (hb : WOk n b) (w : World) :
  Calls Tryz.prog 165 #[.int .i64 27, .int .i64 n, .int .i64 a, .int .i64 b] w fun e w' => e = .returned (.tuple #[.bool (decide (sgn n (frm n (sgn n a + sgn n b)) ≠ sgn n a + sgn n b)), .bool true]) ∧ w' = w := by
 have hw : wrap64 (sgn n a + sgn n b) = sgn n a + sgn n b := by have := sgn_bound n a; have := sgn_bound n b; exact IntWalk.wrap64_in _ (by omega)
 clear ha hb
 go_enter Tryz.func165, Tryz.ntmps165
 go_wp2_with (first | (go_at_call 163; refine (c_WordSignedS _ _ _).mono ?_; rintro e w' ⟨rfl, rfl⟩) | (go_at_call 162; refine (c_WordFromS _ _ _).mono ?_; rintro e w' ⟨rfl, rfl⟩) | (go_at_call 121; refine (c_WordOkS _ _ _).mono ?_; rintro e w' ⟨rfl, rfl⟩))
 go_ret2
 exact ⟨ret2b (by rw [Bool.eq_iff_iff]; simp) rfl, rfl⟩
theorem c_l1Says28 (n a b : Int) (ha : WOk n a) (hb : WOk n b) (w : World) :
  Calls Tryz.prog 165 #[.int .i64 28, .int .i64 n, .int .i64 a, .int .i64 b] w fun e w' => e = .returned (.tuple #[.bool (decide (2 ^ n.toNat ≤ a * b)), .bool true]) ∧ w' = w := by
 have hw : wrap64 (a * b) = a * b := by have := mul_bound ha.2.2.1 ha.lt hb.2.2.1 hb.lt; exact IntWalk.wrap64_in _ (by omega)
 have hi : Hid _ := not_ok_iff ha.1 ha.2.1 (x := a * b) (Int.mul_nonneg ha.2.2.1 hb.2.2.1)
 clear ha hb
 go_enter Tryz.func165, Tryz.ntmps165
 go_wp2_with (first | (go_at_call 163; refine (c_WordSignedS _ _ _).mono ?_; rintro e w' ⟨rfl, rfl⟩) | (go_at_call 162; refine (c_WordFromS _ _ _).mono ?_; rintro e w' ⟨rfl, rfl⟩) | (go_at_call 121; refine (c_WordOkS _ _ _).mono ?_; rintro e w' ⟨rfl, rfl⟩))
 go_ret2
 exact ⟨ret2b (by rw [Bool.eq_iff_iff]; simp [← hi.out]) rfl, rfl⟩
theorem c_l1SaysNo (kind n a b : Int) (hk : kind < 21 ∨ 28 < kind) (w : World) :
  Calls Tryz.prog 165 #[.int .i64 kind, .int .i64 n, .int .i64 a, .int .i64 b] w fun e w' => e = .returned (.tuple #[.bool false, .bool false]) ∧ w' = w := by
 have e21 : (kind == 21) = false := by simp; omega
 have e22 : (kind == 22) = false := by simp; omega
 have e23 : (kind == 23) = false := by simp; omega
 have e24 : (kind == 24) = false := by simp; omega
 have e25 : (kind == 25) = false := by simp; omega
 have e26 : (kind == 26) = false := by simp; omega
 have e27 : (kind == 27) = false := by simp; omega
 have e28 : (kind == 28) = false := by simp; omega
 clear hk
 go_enter Tryz.func165, Tryz.ntmps165
 go_wp2_with (first | (go_at_call 163; refine (c_WordSignedS _ _ _).mono ?_; rintro e w' ⟨rfl, rfl⟩))
 go_ret2
 exact ⟨rfl, rfl⟩
end Go.Proofs.YtlcgimadbpagfaaGreat
namespace Go.Proofs.YtlcgimadbpagfaaGreat
open Go.Lib
open Go.ChangeShapes Go.WideShapes Go.ChangeAt Go.RowKit
set_option linter.unusedVariables false
theorem twoR_ok {kind n a b : Int} (ha : WOk n a) (hb : WOk n b) (h6 : 6 ≤ kind) (h28 : kind ≤ 28) : twoR kind n a b = (twoV kind n a b, if kind < 21 then n else 1, true) := if_pos ⟨ha, hb, h6, h28⟩
theorem twoR_no {kind n a b : Int} (h : ¬ (WOk n a ∧ WOk n b ∧ 6 ≤ kind ∧ kind ≤ 28)) : twoR kind n a b = (0, 0, false) := if_neg h
theorem c_WordTwoI (kind n a b : Int) (w : World) :
  Calls Tryz.prog 173 #[.int .i64 kind, .int .i64 n, .int .i64 a, .int .i64 b] w fun e w' => e = .returned (.tuple #[.int .i64 (twoR kind n a b).1, .int .i64 (twoR kind n a b).2.1, .bool (twoR kind n a b).2.2]) ∧ Below w.heap.size w w' := by
 by_cases hall : WOk n a ∧ WOk n b ∧ 6 ≤ kind ∧ kind ≤ 28
 ·obtain ⟨ha, hb, h6, h28⟩ := hall
  rw [twoR_ok ha hb h6 h28]
  rcases (by omega : kind = 6 ∨ kind = 7 ∨ kind = 8 ∨ kind = 9 ∨ kind = 10 ∨ kind = 11 ∨ kind = 12 ∨ kind = 13 ∨ kind = 14 ∨ kind = 15 ∨ kind = 16 ∨ kind = 17 ∨ kind = 18 ∨ kind = 19 ∨ kind = 20 ∨ kind = 21 ∨ kind = 22 ∨ kind = 23 ∨ kind = 24 ∨ kind = 25 ∨ kind = 26 ∨ kind = 27 ∨ kind = 28) with rfl | rfl | rfl | rfl | rfl | rfl | rfl | rfl | rfl | rfl | rfl | rfl | rfl | rfl | rfl | rfl | rfl | rfl | rfl | rfl | rfl | rfl | rfl
  ·exact c_WordTwoI6 n a b ha hb w
  ·exact c_WordTwoI7 n a b ha hb w
  ·exact c_WordTwoI8 n a b ha hb w
  ·exact c_WordTwoI9 n a b ha hb w
  ·exact c_WordTwoI10 n a b ha hb w
  ·exact c_WordTwoI11 n a b ha hb w
  ·exact c_WordTwoI12 n a b ha hb w
  ·exact c_WordTwoI13 n a b ha hb w
  ·exact c_WordTwoI14 n a b ha hb w
  ·exact c_WordTwoI15 n a b ha hb w
  ·exact c_WordTwoI16 n a b ha hb w
  ·exact c_WordTwoI17 n a b ha hb w
  ·exact c_WordTwoI18 n a b ha hb w
  ·exact c_WordTwoI19 n a b ha hb w
  ·exact c_WordTwoI20 n a b ha hb w
  ·exact c_WordTwoI21 n a b ha hb w
  ·exact c_WordTwoI22 n a b ha hb w
  ·exact c_WordTwoI23 n a b ha hb w
  ·exact c_WordTwoI24 n a b ha hb w
  ·exact c_WordTwoI25 n a b ha hb w
  ·exact c_WordTwoI26 n a b ha hb w
  ·exact c_WordTwoI27 n a b ha hb w
  ·exact c_WordTwoI28 n a b ha hb w
 ·rw [twoR_no hall]
  by_cases h6 : kind < 6
  ·clear hall
   go_enter Tryz.func173, Tryz.ntmps173
   go_wp2_with fail
   go_ret3
   exact ⟨rfl, Below.refl _ _⟩
  ·by_cases h28 : 28 < kind
   ·clear hall
    go_enter Tryz.func173, Tryz.ntmps173
    go_wp2_with fail
    go_ret3
    exact ⟨rfl, Below.refl _ _⟩
   ·by_cases ha : WOk n a
    ·have hd1 : decide (WOk n a) = true := decide_eq_true ha
     have hd2 : decide (WOk n b) = false := decide_eq_false (fun hb => hall ⟨ha, hb, by omega, by omega⟩)
     clear hall ha
     go_enter Tryz.func173, Tryz.ntmps173
     go_wp2_with (first | (go_at_call 148; refine (c_WordOkI _ _ _).mono ?_; rintro e w' ⟨rfl, rfl⟩))
     go_ret3
     exact ⟨rfl, Below.refl _ _⟩
    ·have hd1 : decide (WOk n a) = false := decide_eq_false ha
     clear hall ha
     go_enter Tryz.func173, Tryz.ntmps173
     go_wp2_with (first | (go_at_call 148; refine (c_WordOkI _ _ _).mono ?_; rintro e w' ⟨rfl, rfl⟩))
     go_ret3
     exact ⟨rfl, Below.refl _ _⟩
theorem c_WordTwoS6 (n a b : Int) (ha : WOk n a) (hb : WOk n b) (w : World) :
  Calls Tryz.prog 128 #[.int .i64 6, .int .i64 n, .int .i64 a, .int .i64 b] w fun e w' => e = .returned (.tuple #[.int .i64 (twoV 6 n a b), .int .i64 n, .bool true]) ∧ ∃ m, w' = w.drewN m := by
 have hd1 : decide (WOk n a) = true := decide_eq_true ha
 have hd2 : decide (WOk n b) = true := decide_eq_true hb
 have hA : Hid (WOk n a) := ha
 have hB : Hid (WOk n b) := hb
 clear ha hb
 go_enter Tryz.func128, Tryz.ntmps128
 go_wp2_with (first | (go_at_call 121; refine (c_WordOkS _ _ _).mono ?_; rintro e w' ⟨rfl, rfl⟩) | (go_at_call 165; refine (c_l1SaysNo _ _ _ _ (by omega) _).mono ?_; rintro e w' ⟨rfl, rfl⟩) | (go_at_call 166; refine (c_l1Each6 _ _ _ hA.out hB.out _).mono ?_; rintro e w' ⟨rfl, rfl⟩))
 go_ret3
 exact ⟨ret3 rfl rfl rfl, 0, rfl⟩
theorem c_WordTwoS7 (n a b : Int) (ha : WOk n a) (hb : WOk n b) (w : World) :
  Calls Tryz.prog 128 #[.int .i64 7, .int .i64 n, .int .i64 a, .int .i64 b] w fun e w' => e = .returned (.tuple #[.int .i64 (twoV 7 n a b), .int .i64 n, .bool true]) ∧ ∃ m, w' = w.drewN m := by
 have hd1 : decide (WOk n a) = true := decide_eq_true ha
 have hd2 : decide (WOk n b) = true := decide_eq_true hb
 have hA : Hid (WOk n a) := ha
 have hB : Hid (WOk n b) := hb
 clear ha hb
 go_enter Tryz.func128, Tryz.ntmps128
 go_wp2_with (first | (go_at_call 121; refine (c_WordOkS _ _ _).mono ?_; rintro e w' ⟨rfl, rfl⟩) | (go_at_call 165; refine (c_l1SaysNo _ _ _ _ (by omega) _).mono ?_; rintro e w' ⟨rfl, rfl⟩) | (go_at_call 166; refine (c_l1Each7 _ _ _ hA.out hB.out _).mono ?_; rintro e w' ⟨rfl, rfl⟩))
 go_ret3
 exact ⟨ret3 rfl rfl rfl, 0, rfl⟩
theorem c_WordTwoS8 (n a b : Int) (ha : WOk n a) (hb : WOk n b) (w : World) :
  Calls Tryz.prog 128 #[.int .i64 8, .int .i64 n, .int .i64 a, .int .i64 b] w fun e w' => e = .returned (.tuple #[.int .i64 (twoV 8 n a b), .int .i64 n, .bool true]) ∧ ∃ m, w' = w.drewN m := by
 have hd1 : decide (WOk n a) = true := decide_eq_true ha
 have hd2 : decide (WOk n b) = true := decide_eq_true hb
 have hA : Hid (WOk n a) := ha
 have hB : Hid (WOk n b) := hb
 clear ha hb
 go_enter Tryz.func128, Tryz.ntmps128
 go_wp2_with (first | (go_at_call 121; refine (c_WordOkS _ _ _).mono ?_; rintro e w' ⟨rfl, rfl⟩) | (go_at_call 165; refine (c_l1SaysNo _ _ _ _ (by omega) _).mono ?_; rintro e w' ⟨rfl, rfl⟩) | (go_at_call 166; refine (c_l1Each8 _ _ _ hA.out hB.out _).mono ?_; rintro e w' ⟨rfl, rfl⟩))
 go_ret3
 exact ⟨ret3 rfl rfl rfl, 0, rfl⟩
theorem c_WordTwoS9 (n a b : Int) (ha : WOk n a) (hb : WOk n b) (w : World) :
  Calls Tryz.prog 128 #[.int .i64 9, .int .i64 n, .int .i64 a, .int .i64 b] w fun e w' => e = .returned (.tuple #[.int .i64 (twoV 9 n a b), .int .i64 n, .bool true]) ∧ ∃ m, w' = w.drewN m := by
 have hd1 : decide (WOk n a) = true := decide_eq_true ha
 have hd2 : decide (WOk n b) = true := decide_eq_true hb
 have hA : Hid (WOk n a) := ha
 have hB : Hid (WOk n b) := hb
 clear ha hb
 go_enter Tryz.func128, Tryz.ntmps128
 go_wp2_with (first | (go_at_call 121; refine (c_WordOkS _ _ _).mono ?_; rintro e w' ⟨rfl, rfl⟩) | (go_at_call 165; refine (c_l1SaysNo _ _ _ _ (by omega) _).mono ?_; rintro e w' ⟨rfl, rfl⟩) | (go_at_call 162; refine (c_WordFromS _ _ _).mono ?_; rintro e w' ⟨rfl, rfl⟩))
 go_ret3
 exact ⟨ret3 (frm_wrap _ _) rfl rfl, 0, rfl⟩
theorem c_WordTwoS10 (n a b : Int) (ha : WOk n a) (hb : WOk n b) (w : World) :
  Calls Tryz.prog 128 #[.int .i64 10, .int .i64 n, .int .i64 a, .int .i64 b] w fun e w' => e = .returned (.tuple #[.int .i64 (twoV 10 n a b), .int .i64 n, .bool true]) ∧ ∃ m, w' = w.drewN m := by
 have hd1 : decide (WOk n a) = true := decide_eq_true ha
 have hd2 : decide (WOk n b) = true := decide_eq_true hb
 have hA : Hid (WOk n a) := ha
 have hB : Hid (WOk n b) := hb
 clear ha hb
 go_enter Tryz.func128, Tryz.ntmps128
 go_wp2_with (first | (go_at_call 121; refine (c_WordOkS _ _ _).mono ?_; rintro e w' ⟨rfl, rfl⟩) | (go_at_call 165; refine (c_l1SaysNo _ _ _ _ (by omega) _).mono ?_; rintro e w' ⟨rfl, rfl⟩) | (go_at_call 162; refine (c_WordFromS _ _ _).mono ?_; rintro e w' ⟨rfl, rfl⟩))
 go_ret3
 exact ⟨ret3 (frm_wrap _ _) rfl rfl, 0, rfl⟩
theorem c_WordTwoS11 (n a b : Int) (ha : WOk n a) (hb : WOk n b) (w : World) :
  Calls Tryz.prog 128 #[.int .i64 11, .int .i64 n, .int .i64 a, .int .i64 b] w fun e w' => e = .returned (.tuple #[.int .i64 (twoV 11 n a b), .int .i64 n, .bool true]) ∧ ∃ m, w' = w.drewN m := by
 have hd1 : decide (WOk n a) = true := decide_eq_true ha
 have hd2 : decide (WOk n b) = true := decide_eq_true hb
 have hA : Hid (WOk n a) := ha
 have hB : Hid (WOk n b) := hb
 clear ha hb
 go_enter Tryz.func128, Tryz.ntmps128
 go_wp2_with (first | (go_at_call 121; refine (c_WordOkS _ _ _).mono ?_; rintro e w' ⟨rfl, rfl⟩) | (go_at_call 165; refine (c_l1SaysNo _ _ _ _ (by omega) _).mono ?_; rintro e w' ⟨rfl, rfl⟩) | (go_at_call 162; refine (c_WordFromS _ _ _).mono ?_; rintro e w' ⟨rfl, rfl⟩))
 go_ret3
 exact ⟨ret3 (frm_wrap _ _) rfl rfl, 0, rfl⟩
theorem c_WordTwoS12 (n a b : Int) (ha : WOk n a) (hb : WOk n b) (w : World) :
  Calls Tryz.prog 128 #[.int .i64 12, .int .i64 n, .int .i64 a, .int .i64 b] w fun e w' => e = .returned (.tuple #[.int .i64 (twoV 12 n a b), .int .i64 n, .bool true]) ∧ ∃ m, w' = w.drewN m := by
 have hd1 : decide (WOk n a) = true := decide_eq_true ha
 have hd2 : decide (WOk n b) = true := decide_eq_true hb
 have hA : Hid (WOk n a) := ha
 have hB : Hid (WOk n b) := hb
 clear ha hb
 go_enter Tryz.func128, Tryz.ntmps128
 go_wp2_with (first | (go_at_call 121; refine (c_WordOkS _ _ _).mono ?_; rintro e w' ⟨rfl, rfl⟩) | (go_at_call 165; refine (c_l1SaysNo _ _ _ _ (by omega) _).mono ?_; rintro e w' ⟨rfl, rfl⟩) | (go_at_call 167; refine (c_l1Div12 _ _ _ hA.out hB.out _).mono ?_; rintro e w' ⟨rfl, rfl⟩))
 go_ret3
 exact ⟨ret3 rfl rfl rfl, 0, rfl⟩
theorem c_WordTwoS13 (n a b : Int) (ha : WOk n a) (hb : WOk n b) (w : World) :
  Calls Tryz.prog 128 #[.int .i64 13, .int .i64 n, .int .i64 a, .int .i64 b] w fun e w' => e = .returned (.tuple #[.int .i64 (twoV 13 n a b), .int .i64 n, .bool true]) ∧ ∃ m, w' = w.drewN m := by
 have hd1 : decide (WOk n a) = true := decide_eq_true ha
 have hd2 : decide (WOk n b) = true := decide_eq_true hb
 have hA : Hid (WOk n a) := ha
 have hB : Hid (WOk n b) := hb
 clear ha hb
 go_enter Tryz.func128, Tryz.ntmps128
 go_wp2_with (first | (go_at_call 121; refine (c_WordOkS _ _ _).mono ?_; rintro e w' ⟨rfl, rfl⟩) | (go_at_call 165; refine (c_l1SaysNo _ _ _ _ (by omega) _).mono ?_; rintro e w' ⟨rfl, rfl⟩) | (go_at_call 167; refine (c_l1Div13 _ _ _ hA.out hB.out _).mono ?_; rintro e w' ⟨rfl, rfl⟩))
 go_ret3
 exact ⟨ret3 rfl rfl rfl, 0, rfl⟩
theorem c_WordTwoS14 (n a b : Int) (ha : WOk n a) (hb : WOk n b) (w : World) :
  Calls Tryz.prog 128 #[.int .i64 14, .int .i64 n, .int .i64 a, .int .i64 b] w fun e w' => e = .returned (.tuple #[.int .i64 (twoV 14 n a b), .int .i64 n, .bool true]) ∧ ∃ m, w' = w.drewN m := by
 have hd1 : decide (WOk n a) = true := decide_eq_true ha
 have hd2 : decide (WOk n b) = true := decide_eq_true hb
 have hA : Hid (WOk n a) := ha
 have hB : Hid (WOk n b) := hb
 clear ha hb
 go_enter Tryz.func128, Tryz.ntmps128
 go_wp2_with (first | (go_at_call 121; refine (c_WordOkS _ _ _).mono ?_; rintro e w' ⟨rfl, rfl⟩) | (go_at_call 165; refine (c_l1SaysNo _ _ _ _ (by omega) _).mono ?_; rintro e w' ⟨rfl, rfl⟩) | (go_at_call 168; refine (c_l1Sdiv14 _ _ _ hA.out hB.out _).mono ?_; rintro e w' ⟨rfl, rfl⟩))
 go_ret3
 exact ⟨ret3 rfl rfl rfl, 0, rfl⟩
theorem c_WordTwoS15 (n a b : Int) (ha : WOk n a) (hb : WOk n b) (w : World) :
  Calls Tryz.prog 128 #[.int .i64 15, .int .i64 n, .int .i64 a, .int .i64 b] w fun e w' => e = .returned (.tuple #[.int .i64 (twoV 15 n a b), .int .i64 n, .bool true]) ∧ ∃ m, w' = w.drewN m := by
 have hd1 : decide (WOk n a) = true := decide_eq_true ha
 have hd2 : decide (WOk n b) = true := decide_eq_true hb
 have hA : Hid (WOk n a) := ha
 have hB : Hid (WOk n b) := hb
 clear ha hb
 go_enter Tryz.func128, Tryz.ntmps128
 go_wp2_with (first | (go_at_call 121; refine (c_WordOkS _ _ _).mono ?_; rintro e w' ⟨rfl, rfl⟩) | (go_at_call 165; refine (c_l1SaysNo _ _ _ _ (by omega) _).mono ?_; rintro e w' ⟨rfl, rfl⟩) | (go_at_call 168; refine (c_l1Sdiv15 _ _ _ hA.out hB.out _).mono ?_; rintro e w' ⟨rfl, rfl⟩))
 go_ret3
 exact ⟨ret3 rfl rfl rfl, 0, rfl⟩
theorem c_WordTwoS16 (n a b : Int) (ha : WOk n a) (hb : WOk n b) (w : World) :
  Calls Tryz.prog 128 #[.int .i64 16, .int .i64 n, .int .i64 a, .int .i64 b] w fun e w' => e = .returned (.tuple #[.int .i64 (twoV 16 n a b), .int .i64 n, .bool true]) ∧ ∃ m, w' = w.drewN m := by
 have hd1 : decide (WOk n a) = true := decide_eq_true ha
 have hd2 : decide (WOk n b) = true := decide_eq_true hb
 have hA : Hid (WOk n a) := ha
 have hB : Hid (WOk n b) := hb
 clear ha hb
 go_enter Tryz.func128, Tryz.ntmps128
 go_wp2_with (first | (go_at_call 121; refine (c_WordOkS _ _ _).mono ?_; rintro e w' ⟨rfl, rfl⟩) | (go_at_call 165; refine (c_l1SaysNo _ _ _ _ (by omega) _).mono ?_; rintro e w' ⟨rfl, rfl⟩) | (go_at_call 169; refine (c_l1Shift16 _ _ _ hA.out hB.out _).mono ?_; rintro e w' ⟨rfl, rfl⟩))
 go_ret3
 exact ⟨ret3 rfl rfl rfl, 0, rfl⟩
theorem c_WordTwoS17 (n a b : Int) (ha : WOk n a) (hb : WOk n b) (w : World) :
  Calls Tryz.prog 128 #[.int .i64 17, .int .i64 n, .int .i64 a, .int .i64 b] w fun e w' => e = .returned (.tuple #[.int .i64 (twoV 17 n a b), .int .i64 n, .bool true]) ∧ ∃ m, w' = w.drewN m := by
 have hd1 : decide (WOk n a) = true := decide_eq_true ha
 have hd2 : decide (WOk n b) = true := decide_eq_true hb
 have hA : Hid (WOk n a) := ha
 have hB : Hid (WOk n b) := hb
 clear ha hb
 go_enter Tryz.func128, Tryz.ntmps128
 go_wp2_with (first | (go_at_call 121; refine (c_WordOkS _ _ _).mono ?_; rintro e w' ⟨rfl, rfl⟩) | (go_at_call 165; refine (c_l1SaysNo _ _ _ _ (by omega) _).mono ?_; rintro e w' ⟨rfl, rfl⟩) | (go_at_call 169; refine (c_l1Shift17 _ _ _ hA.out hB.out _).mono ?_; rintro e w' ⟨rfl, rfl⟩))
 go_ret3
 exact ⟨ret3 rfl rfl rfl, 0, rfl⟩
theorem c_WordTwoS18 (n a b : Int) (ha : WOk n a) (hb : WOk n b) (w : World) :
  Calls Tryz.prog 128 #[.int .i64 18, .int .i64 n, .int .i64 a, .int .i64 b] w fun e w' => e = .returned (.tuple #[.int .i64 (twoV 18 n a b), .int .i64 n, .bool true]) ∧ ∃ m, w' = w.drewN m := by
 have hd1 : decide (WOk n a) = true := decide_eq_true ha
 have hd2 : decide (WOk n b) = true := decide_eq_true hb
 have hA : Hid (WOk n a) := ha
 have hB : Hid (WOk n b) := hb
 clear ha hb
 go_enter Tryz.func128, Tryz.ntmps128
 go_wp2_with (first | (go_at_call 121; refine (c_WordOkS _ _ _).mono ?_; rintro e w' ⟨rfl, rfl⟩) | (go_at_call 165; refine (c_l1SaysNo _ _ _ _ (by omega) _).mono ?_; rintro e w' ⟨rfl, rfl⟩) | (go_at_call 169; refine (c_l1Shift18 _ _ _ hA.out hB.out _).mono ?_; rintro e w' ⟨rfl, rfl⟩))
 go_ret3
 exact ⟨ret3 rfl rfl rfl, 0, rfl⟩
theorem c_WordTwoS19 (n a b : Int) (ha : WOk n a) (hb : WOk n b) (w : World) :
  Calls Tryz.prog 128 #[.int .i64 19, .int .i64 n, .int .i64 a, .int .i64 b] w fun e w' => e = .returned (.tuple #[.int .i64 (twoV 19 n a b), .int .i64 n, .bool true]) ∧ ∃ m, w' = w.drewN m := by
 have hd1 : decide (WOk n a) = true := decide_eq_true ha
 have hd2 : decide (WOk n b) = true := decide_eq_true hb
 have hA : Hid (WOk n a) := ha
 have hB : Hid (WOk n b) := hb
 clear ha hb
 go_enter Tryz.func128, Tryz.ntmps128
 go_wp2_with (first | (go_at_call 121; refine (c_WordOkS _ _ _).mono ?_; rintro e w' ⟨rfl, rfl⟩) | (go_at_call 165; refine (c_l1SaysNo _ _ _ _ (by omega) _).mono ?_; rintro e w' ⟨rfl, rfl⟩) | (go_at_call 170; refine (c_l1Turn19 _ _ _ hA.out hB.out _).mono ?_; rintro e w' ⟨rfl, m, rfl⟩))
 go_ret3
 exact ⟨ret3 rfl rfl rfl, _, rfl⟩
theorem c_WordTwoS20 (n a b : Int) (ha : WOk n a) (hb : WOk n b) (w : World) :
  Calls Tryz.prog 128 #[.int .i64 20, .int .i64 n, .int .i64 a, .int .i64 b] w fun e w' => e = .returned (.tuple #[.int .i64 (twoV 20 n a b), .int .i64 n, .bool true]) ∧ ∃ m, w' = w.drewN m := by
 have hd1 : decide (WOk n a) = true := decide_eq_true ha
 have hd2 : decide (WOk n b) = true := decide_eq_true hb
 have hA : Hid (WOk n a) := ha
 have hB : Hid (WOk n b) := hb
 clear ha hb
 go_enter Tryz.func128, Tryz.ntmps128
 go_wp2_with (first | (go_at_call 121; refine (c_WordOkS _ _ _).mono ?_; rintro e w' ⟨rfl, rfl⟩) | (go_at_call 165; refine (c_l1SaysNo _ _ _ _ (by omega) _).mono ?_; rintro e w' ⟨rfl, rfl⟩) | (go_at_call 170; refine (c_l1Turn20 _ _ _ hA.out hB.out _).mono ?_; rintro e w' ⟨rfl, m, rfl⟩))
 go_ret3
 exact ⟨ret3 rfl rfl rfl, _, rfl⟩
theorem c_WordTwoS21 (n a b : Int) (ha : WOk n a) (hb : WOk n b) (w : World) :
  Calls Tryz.prog 128 #[.int .i64 21, .int .i64 n, .int .i64 a, .int .i64 b] w fun e w' => e = .returned (.tuple #[.int .i64 (twoV 21 n a b), .int .i64 1, .bool true]) ∧ ∃ m, w' = w.drewN m := by
 have hd1 : decide (WOk n a) = true := decide_eq_true ha
 have hd2 : decide (WOk n b) = true := decide_eq_true hb
 have hA : Hid (WOk n a) := ha
 have hB : Hid (WOk n b) := hb
 clear ha hb
 go_enter Tryz.func128, Tryz.ntmps128
 go_wp2_with (first | (go_at_call 121; refine (c_WordOkS _ _ _).mono ?_; rintro e w' ⟨rfl, rfl⟩) | (go_at_call 165; refine (c_l1Says21 _ _ _ hA.out hB.out _).mono ?_; rintro e w' ⟨rfl, rfl⟩) | (go_at_call 122; refine (c_l1Yes _ _).mono ?_; rintro e w' ⟨rfl, rfl⟩))
 go_ret3
 exact ⟨ret3 rfl rfl rfl, 0, rfl⟩
theorem c_WordTwoS22 (n a b : Int) (ha : WOk n a) (hb : WOk n b) (w : World) :
  Calls Tryz.prog 128 #[.int .i64 22, .int .i64 n, .int .i64 a, .int .i64 b] w fun e w' => e = .returned (.tuple #[.int .i64 (twoV 22 n a b), .int .i64 1, .bool true]) ∧ ∃ m, w' = w.drewN m := by
 have hd1 : decide (WOk n a) = true := decide_eq_true ha
 have hd2 : decide (WOk n b) = true := decide_eq_true hb
 have hA : Hid (WOk n a) := ha
 have hB : Hid (WOk n b) := hb
 clear ha hb
 go_enter Tryz.func128, Tryz.ntmps128
 go_wp2_with (first | (go_at_call 121; refine (c_WordOkS _ _ _).mono ?_; rintro e w' ⟨rfl, rfl⟩) | (go_at_call 165; refine (c_l1Says22 _ _ _ hA.out hB.out _).mono ?_; rintro e w' ⟨rfl, rfl⟩) | (go_at_call 122; refine (c_l1Yes _ _).mono ?_; rintro e w' ⟨rfl, rfl⟩))
 go_ret3
 exact ⟨ret3 rfl rfl rfl, 0, rfl⟩
theorem c_WordTwoS23 (n a b : Int) (ha : WOk n a) (hb : WOk n b) (w : World) :
  Calls Tryz.prog 128 #[.int .i64 23, .int .i64 n, .int .i64 a, .int .i64 b] w fun e w' => e = .returned (.tuple #[.int .i64 (twoV 23 n a b), .int .i64 1, .bool true]) ∧ ∃ m, w' = w.drewN m := by
 have hd1 : decide (WOk n a) = true := decide_eq_true ha
 have hd2 : decide (WOk n b) = true := decide_eq_true hb
 have hA : Hid (WOk n a) := ha
 have hB : Hid (WOk n b) := hb
 clear ha hb
 go_enter Tryz.func128, Tryz.ntmps128
 go_wp2_with (first | (go_at_call 121; refine (c_WordOkS _ _ _).mono ?_; rintro e w' ⟨rfl, rfl⟩) | (go_at_call 165; refine (c_l1Says23 _ _ _ hA.out hB.out _).mono ?_; rintro e w' ⟨rfl, rfl⟩) | (go_at_call 122; refine (c_l1Yes _ _).mono ?_; rintro e w' ⟨rfl, rfl⟩))
 go_ret3
 exact ⟨ret3 rfl rfl rfl, 0, rfl⟩
theorem c_WordTwoS24 (n a b : Int) (ha : WOk n a) (hb : WOk n b) (w : World) :
  Calls Tryz.prog 128 #[.int .i64 24, .int .i64 n, .int .i64 a, .int .i64 b] w fun e w' => e = .returned (.tuple #[.int .i64 (twoV 24 n a b), .int .i64 1, .bool true]) ∧ ∃ m, w' = w.drewN m := by
 have hd1 : decide (WOk n a) = true := decide_eq_true ha
 have hd2 : decide (WOk n b) = true := decide_eq_true hb
 have hA : Hid (WOk n a) := ha
 have hB : Hid (WOk n b) := hb
 clear ha hb
 go_enter Tryz.func128, Tryz.ntmps128
 go_wp2_with (first | (go_at_call 121; refine (c_WordOkS _ _ _).mono ?_; rintro e w' ⟨rfl, rfl⟩) | (go_at_call 165; refine (c_l1Says24 _ _ _ hA.out hB.out _).mono ?_; rintro e w' ⟨rfl, rfl⟩) | (go_at_call 122; refine (c_l1Yes _ _).mono ?_; rintro e w' ⟨rfl, rfl⟩))
 go_ret3
 exact ⟨ret3 rfl rfl rfl, 0, rfl⟩
theorem c_WordTwoS25 (n a b : Int) (ha : WOk n a) (hb : WOk n b) (w : World) :
  Calls Tryz.prog 128 #[.int .i64 25, .int .i64 n, .int .i64 a, .int .i64 b] w fun e w' => e = .returned (.tuple #[.int .i64 (twoV 25 n a b), .int .i64 1, .bool true]) ∧ ∃ m, w' = w.drewN m := by
 have hd1 : decide (WOk n a) = true := decide_eq_true ha
 have hd2 : decide (WOk n b) = true := decide_eq_true hb
 have hA : Hid (WOk n a) := ha
 have hB : Hid (WOk n b) := hb
 clear ha hb
 go_enter Tryz.func128, Tryz.ntmps128
 go_wp2_with (first | (go_at_call 121; refine (c_WordOkS _ _ _).mono ?_; rintro e w' ⟨rfl, rfl⟩) | (go_at_call 165; refine (c_l1Says25 _ _ _ hA.out hB.out _).mono ?_; rintro e w' ⟨rfl, rfl⟩) | (go_at_call 122; refine (c_l1Yes _ _).mono ?_; rintro e w' ⟨rfl, rfl⟩))
 go_ret3
 exact ⟨ret3 rfl rfl rfl, 0, rfl⟩
theorem c_WordTwoS26 (n a b : Int) (ha : WOk n a) (hb : WOk n b) (w : World) :
  Calls Tryz.prog 128 #[.int .i64 26, .int .i64 n, .int .i64 a, .int .i64 b] w fun e w' => e = .returned (.tuple #[.int .i64 (twoV 26 n a b), .int .i64 1, .bool true]) ∧ ∃ m, w' = w.drewN m := by
 have hd1 : decide (WOk n a) = true := decide_eq_true ha
 have hd2 : decide (WOk n b) = true := decide_eq_true hb
 have hA : Hid (WOk n a) := ha
 have hB : Hid (WOk n b) := hb
 clear ha hb
 go_enter Tryz.func128, Tryz.ntmps128
 go_wp2_with (first | (go_at_call 121; refine (c_WordOkS _ _ _).mono ?_; rintro e w' ⟨rfl, rfl⟩) | (go_at_call 165; refine (c_l1Says26 _ _ _ hA.out hB.out _).mono ?_; rintro e w' ⟨rfl, rfl⟩) | (go_at_call 122; refine (c_l1Yes _ _).mono ?_; rintro e w' ⟨rfl, rfl⟩))
 go_ret3
 exact ⟨ret3 rfl rfl rfl, 0, rfl⟩
theorem c_WordTwoS27 (n a b : Int) (ha : WOk n a) (hb : WOk n b) (w : World) :
  Calls Tryz.prog 128 #[.int .i64 27, .int .i64 n, .int .i64 a, .int .i64 b] w fun e w' => e = .returned (.tuple #[.int .i64 (twoV 27 n a b), .int .i64 1, .bool true]) ∧ ∃ m, w' = w.drewN m := by
 have hd1 : decide (WOk n a) = true := decide_eq_true ha
 have hd2 : decide (WOk n b) = true := decide_eq_true hb
 have hA : Hid (WOk n a) := ha
 have hB : Hid (WOk n b) := hb
 clear ha hb
 go_enter Tryz.func128, Tryz.ntmps128
 go_wp2_with (first | (go_at_call 121; refine (c_WordOkS _ _ _).mono ?_; rintro e w' ⟨rfl, rfl⟩) | (go_at_call 165; refine (c_l1Says27 _ _ _ hA.out hB.out _).mono ?_; rintro e w' ⟨rfl, rfl⟩) | (go_at_call 122; refine (c_l1Yes _ _).mono ?_; rintro e w' ⟨rfl, rfl⟩))
 go_ret3
 exact ⟨ret3 (by show _ = (((decide (sgn n (frm n (sgn n a + sgn n b)) ≠ sgn n a + sgn n b)).toNat : Nat) : Int); simp only [ne_eq, decide_not]) rfl rfl, 0, rfl⟩
theorem c_WordTwoS28 (n a b : Int) (ha : WOk n a) (hb : WOk n b) (w : World) :
  Calls Tryz.prog 128 #[.int .i64 28, .int .i64 n, .int .i64 a, .int .i64 b] w fun e w' => e = .returned (.tuple #[.int .i64 (twoV 28 n a b), .int .i64 1, .bool true]) ∧ ∃ m, w' = w.drewN m := by
 have hd1 : decide (WOk n a) = true := decide_eq_true ha
 have hd2 : decide (WOk n b) = true := decide_eq_true hb
 have hA : Hid (WOk n a) := ha
 have hB : Hid (WOk n b) := hb
 clear ha hb
 go_enter Tryz.func128, Tryz.ntmps128
 go_wp2_with (first | (go_at_call 121; refine (c_WordOkS _ _ _).mono ?_; rintro e w' ⟨rfl, rfl⟩) | (go_at_call 165; refine (c_l1Says28 _ _ _ hA.out hB.out _).mono ?_; rintro e w' ⟨rfl, rfl⟩) | (go_at_call 122; refine (c_l1Yes _ _).mono ?_; rintro e w' ⟨rfl, rfl⟩))
 go_ret3
 exact ⟨ret3 rfl rfl rfl, 0, rfl⟩
theorem c_WordTwoS (kind n a b : Int) (w : World) :
  Calls Tryz.prog 128 #[.int .i64 kind, .int .i64 n, .int .i64 a, .int .i64 b] w fun e w' => e = .returned (.tuple #[.int .i64 (twoR kind n a b).1, .int .i64 (twoR kind n a b).2.1, .bool (twoR kind n a b).2.2]) ∧ ∃ m, w' = w.drewN m := by
 by_cases hall : WOk n a ∧ WOk n b ∧ 6 ≤ kind ∧ kind ≤ 28
 ·obtain ⟨ha, hb, h6, h28⟩ := hall
  rw [twoR_ok ha hb h6 h28]
  rcases (by omega : kind = 6 ∨ kind = 7 ∨ kind = 8 ∨ kind = 9 ∨ kind = 10 ∨ kind = 11 ∨ kind = 12 ∨ kind = 13 ∨ kind = 14 ∨ kind = 15 ∨ kind = 16 ∨ kind = 17 ∨ kind = 18 ∨ kind = 19 ∨ kind = 20 ∨ kind = 21 ∨ kind = 22 ∨ kind = 23 ∨ kind = 24 ∨ kind = 25 ∨ kind = 26 ∨ kind = 27 ∨ kind = 28) with rfl | rfl | rfl | rfl | rfl | rfl | rfl | rfl | rfl | rfl | rfl | rfl | rfl | rfl | rfl | rfl | rfl | rfl | rfl | rfl | rfl | rfl | rfl
  ·exact c_WordTwoS6 n a b ha hb w
  ·exact c_WordTwoS7 n a b ha hb w
  ·exact c_WordTwoS8 n a b ha hb w
  ·exact c_WordTwoS9 n a b ha hb w
  ·exact c_WordTwoS10 n a b ha hb w
  ·exact c_WordTwoS11 n a b ha hb w
  ·exact c_WordTwoS12 n a b ha hb w
  ·exact c_WordTwoS13 n a b ha hb w
  ·exact c_WordTwoS14 n a b ha hb w
  ·exact c_WordTwoS15 n a b ha hb w
  ·exact c_WordTwoS16 n a b ha hb w
  ·exact c_WordTwoS17 n a b ha hb w
  ·exact c_WordTwoS18 n a b ha hb w
  ·exact c_WordTwoS19 n a b ha hb w
  ·exact c_WordTwoS20 n a b ha hb w
  ·exact c_WordTwoS21 n a b ha hb w
  ·exact c_WordTwoS22 n a b ha hb w
  ·exact c_WordTwoS23 n a b ha hb w
  ·exact c_WordTwoS24 n a b ha hb w
  ·exact c_WordTwoS25 n a b ha hb w
  ·exact c_WordTwoS26 n a b ha hb w
  ·exact c_WordTwoS27 n a b ha hb w
  ·exact c_WordTwoS28 n a b ha hb w
 ·rw [twoR_no hall]
  by_cases ha : WOk n a
  ·have hd1 : decide (WOk n a) = true := decide_eq_true ha
   by_cases hb : WOk n b
   ·have hd2 : decide (WOk n b) = true := decide_eq_true hb
    have hk : kind < 6 ∨ 28 < kind := by
     by_cases h6 : 6 ≤ kind
     ·by_cases h28 : kind ≤ 28
      ·exact absurd ⟨ha, hb, h6, h28⟩ hall
      ·omega
     ·omega
    have e6 : (kind == 6) = false := by simp; omega
    have e7 : (kind == 7) = false := by simp; omega
    have e8 : (kind == 8) = false := by simp; omega
    have e9 : (kind == 9) = false := by simp; omega
    have e10 : (kind == 10) = false := by simp; omega
    have e11 : (kind == 11) = false := by simp; omega
    have e12 : (kind == 12) = false := by simp; omega
    have e13 : (kind == 13) = false := by simp; omega
    have e14 : (kind == 14) = false := by simp; omega
    have e15 : (kind == 15) = false := by simp; omega
    have e16 : (kind == 16) = false := by simp; omega
    have e17 : (kind == 17) = false := by simp; omega
    have e18 : (kind == 18) = false := by simp; omega
    have e19 : (kind == 19) = false := by simp; omega
    have e20 : (kind == 20) = false := by simp; omega
    have hk2 : Hid (kind < 21 ∨ 28 < kind) := by show kind < 21 ∨ 28 < kind; omega
    clear hall ha hb hk
    go_enter Tryz.func128, Tryz.ntmps128
    go_wp2_with (first | (go_at_call 121; refine (c_WordOkS _ _ _).mono ?_; rintro e w' ⟨rfl, rfl⟩) | (go_at_call 165; refine (c_l1SaysNo _ _ _ _ hk2.out _).mono ?_; rintro e w' ⟨rfl, rfl⟩))
    go_ret3
    exact ⟨rfl, 0, rfl⟩
   ·have hd2 : decide (WOk n b) = false := decide_eq_false hb
    clear hall ha hb
    go_enter Tryz.func128, Tryz.ntmps128
    go_wp2_with (first | (go_at_call 121; refine (c_WordOkS _ _ _).mono ?_; rintro e w' ⟨rfl, rfl⟩))
    go_ret3
    exact ⟨rfl, 0, rfl⟩
  ·have hd1 : decide (WOk n a) = false := decide_eq_false ha
   clear hall ha
   go_enter Tryz.func128, Tryz.ntmps128
   go_wp2_with (first | (go_at_call 121; refine (c_WordOkS _ _ _).mono ?_; rintro e w' ⟨rfl, rfl⟩))
   go_ret3
   exact ⟨rfl, 0, rfl⟩
end Go.Proofs.YtlcgimadbpagfaaGreat
