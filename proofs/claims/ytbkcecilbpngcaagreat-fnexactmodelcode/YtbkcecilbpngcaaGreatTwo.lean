/-
  What both WordTwo answer, at whatever arguments.
-/
import Derived.Test.YtbkcecilbpngcaaGreatRows
import Derived.Test.YtbkcecilbpngcaaGreatPaA
import Derived.Test.YtbkcecilbpngcaaGreatCut
import Derived.Test.YtbkcecilbpngcaaGreatBits
import Derived.Test.YtbkcecilbpngcaaGreatTwoI
import Derived.Test.YtbkcecilbpngcaaGreatTab
import Derived.Test.YtbkcecilbpngcaaGreatWTwoA
import Derived.Test.YtbkcecilbpngcaaGreatWTwoB
import Derived.Test.YtbkcecilbpngcaaGreatTwoS
import Derived.WalkKit
import Derived.ProofKit
import Derived.OpenShut
import Derived.WalkSpells
import Derived.WalkLawsBesides
import Derived.Outline
import Derived.BigQuiet
namespace Go.Proofs.YtbkcecilbpngcaaGreat
open Go.ChangeShapes Go.WideShapes Go.ChangeAt Go.RowKit
set_option linter.unusedVariables false

theorem twoR_ok {kind n a b : Int} (ha : WOk n a) (hb : WOk n b) (h6 : 6 ≤ kind) (h28 : kind ≤ 28) : twoR kind n a b = (twoV kind n a b, if kind < 21 then n else 1, true) := if_pos ⟨ha, hb, h6, h28⟩
theorem twoR_no {kind n a b : Int} (h : ¬ (WOk n a ∧ WOk n b ∧ 6 ≤ kind ∧ kind ≤ 28)) : twoR kind n a b = (0, 0, false) := if_neg h

theorem c_WordTwoI (kind n a b : Int) (w : World) :
    Calls Tryz.prog 150 #[.int .i64 kind, .int .i64 n, .int .i64 a, .int .i64 b] w fun e w' => e = .returned (.tuple #[.int .i64 (twoR kind n a b).1, .int .i64 (twoR kind n a b).2.1, .bool (twoR kind n a b).2.2]) ∧ Below w.heap.size w w' := by
  by_cases hall : WOk n a ∧ WOk n b ∧ 6 ≤ kind ∧ kind ≤ 28
  · obtain ⟨ha, hb, h6, h28⟩ := hall
    rw [twoR_ok ha hb h6 h28]
    rcases (by omega : kind = 6 ∨ kind = 7 ∨ kind = 8 ∨ kind = 9 ∨ kind = 10 ∨ kind = 11 ∨ kind = 12 ∨ kind = 13 ∨ kind = 14 ∨ kind = 15 ∨ kind = 16 ∨ kind = 17 ∨ kind = 18 ∨ kind = 19 ∨ kind = 20 ∨ kind = 21 ∨ kind = 22 ∨ kind = 23 ∨ kind = 24 ∨ kind = 25 ∨ kind = 26 ∨ kind = 27 ∨ kind = 28) with rfl | rfl | rfl | rfl | rfl | rfl | rfl | rfl | rfl | rfl | rfl | rfl | rfl | rfl | rfl | rfl | rfl | rfl | rfl | rfl | rfl | rfl | rfl
    · exact c_WordTwoI6 n a b ha hb w
    · exact c_WordTwoI7 n a b ha hb w
    · exact c_WordTwoI8 n a b ha hb w
    · exact c_WordTwoI9 n a b ha hb w
    · exact c_WordTwoI10 n a b ha hb w
    · exact c_WordTwoI11 n a b ha hb w
    · exact c_WordTwoI12 n a b ha hb w
    · exact c_WordTwoI13 n a b ha hb w
    · exact c_WordTwoI14 n a b ha hb w
    · exact c_WordTwoI15 n a b ha hb w
    · exact c_WordTwoI16 n a b ha hb w
    · exact c_WordTwoI17 n a b ha hb w
    · exact c_WordTwoI18 n a b ha hb w
    · exact c_WordTwoI19 n a b ha hb w
    · exact c_WordTwoI20 n a b ha hb w
    · exact c_WordTwoI21 n a b ha hb w
    · exact c_WordTwoI22 n a b ha hb w
    · exact c_WordTwoI23 n a b ha hb w
    · exact c_WordTwoI24 n a b ha hb w
    · exact c_WordTwoI25 n a b ha hb w
    · exact c_WordTwoI26 n a b ha hb w
    · exact c_WordTwoI27 n a b ha hb w
    · exact c_WordTwoI28 n a b ha hb w
  · rw [twoR_no hall]
    by_cases h6 : kind < 6
    · clear hall
      go_enter Tryz.func150, Tryz.ntmps150
      go_wp2_with fail
      go_ret3
      exact ⟨rfl, Below.refl _ _⟩
    · by_cases h28 : 28 < kind
      · clear hall
        go_enter Tryz.func150, Tryz.ntmps150
        go_wp2_with fail
        go_ret3
        exact ⟨rfl, Below.refl _ _⟩
      · by_cases ha : WOk n a
        · have hd1 : decide (WOk n a) = true := decide_eq_true ha
          have hd2 : decide (WOk n b) = false := decide_eq_false (fun hb => hall ⟨ha, hb, by omega, by omega⟩)
          clear hall ha
          go_enter Tryz.func150, Tryz.ntmps150
          go_wp2_with (first | (go_at_call 118; refine (c_WordOkI _ _ _).mono ?_; rintro e w' ⟨rfl, rfl⟩))
          go_ret3
          exact ⟨rfl, Below.refl _ _⟩
        · have hd1 : decide (WOk n a) = false := decide_eq_false ha
          clear hall ha
          go_enter Tryz.func150, Tryz.ntmps150
          go_wp2_with (first | (go_at_call 118; refine (c_WordOkI _ _ _).mono ?_; rintro e w' ⟨rfl, rfl⟩))
          go_ret3
          exact ⟨rfl, Below.refl _ _⟩

theorem c_WordTwoS6 (n a b : Int) (ha : WOk n a) (hb : WOk n b) (w : World) :
    Calls Tryz.prog 114 #[.int .i64 6, .int .i64 n, .int .i64 a, .int .i64 b] w fun e w' => e = .returned (.tuple #[.int .i64 (twoV 6 n a b), .int .i64 n, .bool true]) ∧ ∃ m, w' = w.drewN m := by
  have hd1 : decide (WOk n a) = true := decide_eq_true ha
  have hd2 : decide (WOk n b) = true := decide_eq_true hb
  have hA : Hid (WOk n a) := ha
  have hB : Hid (WOk n b) := hb
  clear ha hb
  go_enter Tryz.func114, Tryz.ntmps114
  go_wp2_with (first | (go_at_call 89; refine (c_WordOkS _ _ _).mono ?_; rintro e w' ⟨rfl, rfl⟩) | (go_at_call 136; refine (c_l1SaysNo _ _ _ _ (by omega) _).mono ?_; rintro e w' ⟨rfl, rfl⟩) | (go_at_call 137; refine (c_l1Each6 _ _ _ hA.out hB.out _).mono ?_; rintro e w' ⟨rfl, rfl⟩))
  go_ret3
  exact ⟨ret3 rfl rfl rfl, 0, rfl⟩

theorem c_WordTwoS7 (n a b : Int) (ha : WOk n a) (hb : WOk n b) (w : World) :
    Calls Tryz.prog 114 #[.int .i64 7, .int .i64 n, .int .i64 a, .int .i64 b] w fun e w' => e = .returned (.tuple #[.int .i64 (twoV 7 n a b), .int .i64 n, .bool true]) ∧ ∃ m, w' = w.drewN m := by
  have hd1 : decide (WOk n a) = true := decide_eq_true ha
  have hd2 : decide (WOk n b) = true := decide_eq_true hb
  have hA : Hid (WOk n a) := ha
  have hB : Hid (WOk n b) := hb
  clear ha hb
  go_enter Tryz.func114, Tryz.ntmps114
  go_wp2_with (first | (go_at_call 89; refine (c_WordOkS _ _ _).mono ?_; rintro e w' ⟨rfl, rfl⟩) | (go_at_call 136; refine (c_l1SaysNo _ _ _ _ (by omega) _).mono ?_; rintro e w' ⟨rfl, rfl⟩) | (go_at_call 137; refine (c_l1Each7 _ _ _ hA.out hB.out _).mono ?_; rintro e w' ⟨rfl, rfl⟩))
  go_ret3
  exact ⟨ret3 rfl rfl rfl, 0, rfl⟩

theorem c_WordTwoS8 (n a b : Int) (ha : WOk n a) (hb : WOk n b) (w : World) :
    Calls Tryz.prog 114 #[.int .i64 8, .int .i64 n, .int .i64 a, .int .i64 b] w fun e w' => e = .returned (.tuple #[.int .i64 (twoV 8 n a b), .int .i64 n, .bool true]) ∧ ∃ m, w' = w.drewN m := by
  have hd1 : decide (WOk n a) = true := decide_eq_true ha
  have hd2 : decide (WOk n b) = true := decide_eq_true hb
  have hA : Hid (WOk n a) := ha
  have hB : Hid (WOk n b) := hb
  clear ha hb
  go_enter Tryz.func114, Tryz.ntmps114
  go_wp2_with (first | (go_at_call 89; refine (c_WordOkS _ _ _).mono ?_; rintro e w' ⟨rfl, rfl⟩) | (go_at_call 136; refine (c_l1SaysNo _ _ _ _ (by omega) _).mono ?_; rintro e w' ⟨rfl, rfl⟩) | (go_at_call 137; refine (c_l1Each8 _ _ _ hA.out hB.out _).mono ?_; rintro e w' ⟨rfl, rfl⟩))
  go_ret3
  exact ⟨ret3 rfl rfl rfl, 0, rfl⟩

theorem c_WordTwoS9 (n a b : Int) (ha : WOk n a) (hb : WOk n b) (w : World) :
    Calls Tryz.prog 114 #[.int .i64 9, .int .i64 n, .int .i64 a, .int .i64 b] w fun e w' => e = .returned (.tuple #[.int .i64 (twoV 9 n a b), .int .i64 n, .bool true]) ∧ ∃ m, w' = w.drewN m := by
  have hd1 : decide (WOk n a) = true := decide_eq_true ha
  have hd2 : decide (WOk n b) = true := decide_eq_true hb
  have hA : Hid (WOk n a) := ha
  have hB : Hid (WOk n b) := hb
  clear ha hb
  go_enter Tryz.func114, Tryz.ntmps114
  go_wp2_with (first | (go_at_call 89; refine (c_WordOkS _ _ _).mono ?_; rintro e w' ⟨rfl, rfl⟩) | (go_at_call 136; refine (c_l1SaysNo _ _ _ _ (by omega) _).mono ?_; rintro e w' ⟨rfl, rfl⟩) | (go_at_call 132; refine (c_WordFromS _ _ _).mono ?_; rintro e w' ⟨rfl, rfl⟩))
  go_ret3
  exact ⟨ret3 (frm_wrap _ _) rfl rfl, 0, rfl⟩

theorem c_WordTwoS10 (n a b : Int) (ha : WOk n a) (hb : WOk n b) (w : World) :
    Calls Tryz.prog 114 #[.int .i64 10, .int .i64 n, .int .i64 a, .int .i64 b] w fun e w' => e = .returned (.tuple #[.int .i64 (twoV 10 n a b), .int .i64 n, .bool true]) ∧ ∃ m, w' = w.drewN m := by
  have hd1 : decide (WOk n a) = true := decide_eq_true ha
  have hd2 : decide (WOk n b) = true := decide_eq_true hb
  have hA : Hid (WOk n a) := ha
  have hB : Hid (WOk n b) := hb
  clear ha hb
  go_enter Tryz.func114, Tryz.ntmps114
  go_wp2_with (first | (go_at_call 89; refine (c_WordOkS _ _ _).mono ?_; rintro e w' ⟨rfl, rfl⟩) | (go_at_call 136; refine (c_l1SaysNo _ _ _ _ (by omega) _).mono ?_; rintro e w' ⟨rfl, rfl⟩) | (go_at_call 132; refine (c_WordFromS _ _ _).mono ?_; rintro e w' ⟨rfl, rfl⟩))
  go_ret3
  exact ⟨ret3 (frm_wrap _ _) rfl rfl, 0, rfl⟩

theorem c_WordTwoS11 (n a b : Int) (ha : WOk n a) (hb : WOk n b) (w : World) :
    Calls Tryz.prog 114 #[.int .i64 11, .int .i64 n, .int .i64 a, .int .i64 b] w fun e w' => e = .returned (.tuple #[.int .i64 (twoV 11 n a b), .int .i64 n, .bool true]) ∧ ∃ m, w' = w.drewN m := by
  have hd1 : decide (WOk n a) = true := decide_eq_true ha
  have hd2 : decide (WOk n b) = true := decide_eq_true hb
  have hA : Hid (WOk n a) := ha
  have hB : Hid (WOk n b) := hb
  clear ha hb
  go_enter Tryz.func114, Tryz.ntmps114
  go_wp2_with (first | (go_at_call 89; refine (c_WordOkS _ _ _).mono ?_; rintro e w' ⟨rfl, rfl⟩) | (go_at_call 136; refine (c_l1SaysNo _ _ _ _ (by omega) _).mono ?_; rintro e w' ⟨rfl, rfl⟩) | (go_at_call 132; refine (c_WordFromS _ _ _).mono ?_; rintro e w' ⟨rfl, rfl⟩))
  go_ret3
  exact ⟨ret3 (frm_wrap _ _) rfl rfl, 0, rfl⟩

theorem c_WordTwoS12 (n a b : Int) (ha : WOk n a) (hb : WOk n b) (w : World) :
    Calls Tryz.prog 114 #[.int .i64 12, .int .i64 n, .int .i64 a, .int .i64 b] w fun e w' => e = .returned (.tuple #[.int .i64 (twoV 12 n a b), .int .i64 n, .bool true]) ∧ ∃ m, w' = w.drewN m := by
  have hd1 : decide (WOk n a) = true := decide_eq_true ha
  have hd2 : decide (WOk n b) = true := decide_eq_true hb
  have hA : Hid (WOk n a) := ha
  have hB : Hid (WOk n b) := hb
  clear ha hb
  go_enter Tryz.func114, Tryz.ntmps114
  go_wp2_with (first | (go_at_call 89; refine (c_WordOkS _ _ _).mono ?_; rintro e w' ⟨rfl, rfl⟩) | (go_at_call 136; refine (c_l1SaysNo _ _ _ _ (by omega) _).mono ?_; rintro e w' ⟨rfl, rfl⟩) | (go_at_call 138; refine (c_l1Div12 _ _ _ hA.out hB.out _).mono ?_; rintro e w' ⟨rfl, rfl⟩))
  go_ret3
  exact ⟨ret3 rfl rfl rfl, 0, rfl⟩

theorem c_WordTwoS13 (n a b : Int) (ha : WOk n a) (hb : WOk n b) (w : World) :
    Calls Tryz.prog 114 #[.int .i64 13, .int .i64 n, .int .i64 a, .int .i64 b] w fun e w' => e = .returned (.tuple #[.int .i64 (twoV 13 n a b), .int .i64 n, .bool true]) ∧ ∃ m, w' = w.drewN m := by
  have hd1 : decide (WOk n a) = true := decide_eq_true ha
  have hd2 : decide (WOk n b) = true := decide_eq_true hb
  have hA : Hid (WOk n a) := ha
  have hB : Hid (WOk n b) := hb
  clear ha hb
  go_enter Tryz.func114, Tryz.ntmps114
  go_wp2_with (first | (go_at_call 89; refine (c_WordOkS _ _ _).mono ?_; rintro e w' ⟨rfl, rfl⟩) | (go_at_call 136; refine (c_l1SaysNo _ _ _ _ (by omega) _).mono ?_; rintro e w' ⟨rfl, rfl⟩) | (go_at_call 138; refine (c_l1Div13 _ _ _ hA.out hB.out _).mono ?_; rintro e w' ⟨rfl, rfl⟩))
  go_ret3
  exact ⟨ret3 rfl rfl rfl, 0, rfl⟩

theorem c_WordTwoS14 (n a b : Int) (ha : WOk n a) (hb : WOk n b) (w : World) :
    Calls Tryz.prog 114 #[.int .i64 14, .int .i64 n, .int .i64 a, .int .i64 b] w fun e w' => e = .returned (.tuple #[.int .i64 (twoV 14 n a b), .int .i64 n, .bool true]) ∧ ∃ m, w' = w.drewN m := by
  have hd1 : decide (WOk n a) = true := decide_eq_true ha
  have hd2 : decide (WOk n b) = true := decide_eq_true hb
  have hA : Hid (WOk n a) := ha
  have hB : Hid (WOk n b) := hb
  clear ha hb
  go_enter Tryz.func114, Tryz.ntmps114
  go_wp2_with (first | (go_at_call 89; refine (c_WordOkS _ _ _).mono ?_; rintro e w' ⟨rfl, rfl⟩) | (go_at_call 136; refine (c_l1SaysNo _ _ _ _ (by omega) _).mono ?_; rintro e w' ⟨rfl, rfl⟩) | (go_at_call 139; refine (c_l1Sdiv14 _ _ _ hA.out hB.out _).mono ?_; rintro e w' ⟨rfl, rfl⟩))
  go_ret3
  exact ⟨ret3 rfl rfl rfl, 0, rfl⟩

theorem c_WordTwoS15 (n a b : Int) (ha : WOk n a) (hb : WOk n b) (w : World) :
    Calls Tryz.prog 114 #[.int .i64 15, .int .i64 n, .int .i64 a, .int .i64 b] w fun e w' => e = .returned (.tuple #[.int .i64 (twoV 15 n a b), .int .i64 n, .bool true]) ∧ ∃ m, w' = w.drewN m := by
  have hd1 : decide (WOk n a) = true := decide_eq_true ha
  have hd2 : decide (WOk n b) = true := decide_eq_true hb
  have hA : Hid (WOk n a) := ha
  have hB : Hid (WOk n b) := hb
  clear ha hb
  go_enter Tryz.func114, Tryz.ntmps114
  go_wp2_with (first | (go_at_call 89; refine (c_WordOkS _ _ _).mono ?_; rintro e w' ⟨rfl, rfl⟩) | (go_at_call 136; refine (c_l1SaysNo _ _ _ _ (by omega) _).mono ?_; rintro e w' ⟨rfl, rfl⟩) | (go_at_call 139; refine (c_l1Sdiv15 _ _ _ hA.out hB.out _).mono ?_; rintro e w' ⟨rfl, rfl⟩))
  go_ret3
  exact ⟨ret3 rfl rfl rfl, 0, rfl⟩

theorem c_WordTwoS16 (n a b : Int) (ha : WOk n a) (hb : WOk n b) (w : World) :
    Calls Tryz.prog 114 #[.int .i64 16, .int .i64 n, .int .i64 a, .int .i64 b] w fun e w' => e = .returned (.tuple #[.int .i64 (twoV 16 n a b), .int .i64 n, .bool true]) ∧ ∃ m, w' = w.drewN m := by
  have hd1 : decide (WOk n a) = true := decide_eq_true ha
  have hd2 : decide (WOk n b) = true := decide_eq_true hb
  have hA : Hid (WOk n a) := ha
  have hB : Hid (WOk n b) := hb
  clear ha hb
  go_enter Tryz.func114, Tryz.ntmps114
  go_wp2_with (first | (go_at_call 89; refine (c_WordOkS _ _ _).mono ?_; rintro e w' ⟨rfl, rfl⟩) | (go_at_call 136; refine (c_l1SaysNo _ _ _ _ (by omega) _).mono ?_; rintro e w' ⟨rfl, rfl⟩) | (go_at_call 140; refine (c_l1Shift16 _ _ _ hA.out hB.out _).mono ?_; rintro e w' ⟨rfl, rfl⟩))
  go_ret3
  exact ⟨ret3 rfl rfl rfl, 0, rfl⟩

theorem c_WordTwoS17 (n a b : Int) (ha : WOk n a) (hb : WOk n b) (w : World) :
    Calls Tryz.prog 114 #[.int .i64 17, .int .i64 n, .int .i64 a, .int .i64 b] w fun e w' => e = .returned (.tuple #[.int .i64 (twoV 17 n a b), .int .i64 n, .bool true]) ∧ ∃ m, w' = w.drewN m := by
  have hd1 : decide (WOk n a) = true := decide_eq_true ha
  have hd2 : decide (WOk n b) = true := decide_eq_true hb
  have hA : Hid (WOk n a) := ha
  have hB : Hid (WOk n b) := hb
  clear ha hb
  go_enter Tryz.func114, Tryz.ntmps114
  go_wp2_with (first | (go_at_call 89; refine (c_WordOkS _ _ _).mono ?_; rintro e w' ⟨rfl, rfl⟩) | (go_at_call 136; refine (c_l1SaysNo _ _ _ _ (by omega) _).mono ?_; rintro e w' ⟨rfl, rfl⟩) | (go_at_call 140; refine (c_l1Shift17 _ _ _ hA.out hB.out _).mono ?_; rintro e w' ⟨rfl, rfl⟩))
  go_ret3
  exact ⟨ret3 rfl rfl rfl, 0, rfl⟩

theorem c_WordTwoS18 (n a b : Int) (ha : WOk n a) (hb : WOk n b) (w : World) :
    Calls Tryz.prog 114 #[.int .i64 18, .int .i64 n, .int .i64 a, .int .i64 b] w fun e w' => e = .returned (.tuple #[.int .i64 (twoV 18 n a b), .int .i64 n, .bool true]) ∧ ∃ m, w' = w.drewN m := by
  have hd1 : decide (WOk n a) = true := decide_eq_true ha
  have hd2 : decide (WOk n b) = true := decide_eq_true hb
  have hA : Hid (WOk n a) := ha
  have hB : Hid (WOk n b) := hb
  clear ha hb
  go_enter Tryz.func114, Tryz.ntmps114
  go_wp2_with (first | (go_at_call 89; refine (c_WordOkS _ _ _).mono ?_; rintro e w' ⟨rfl, rfl⟩) | (go_at_call 136; refine (c_l1SaysNo _ _ _ _ (by omega) _).mono ?_; rintro e w' ⟨rfl, rfl⟩) | (go_at_call 140; refine (c_l1Shift18 _ _ _ hA.out hB.out _).mono ?_; rintro e w' ⟨rfl, rfl⟩))
  go_ret3
  exact ⟨ret3 rfl rfl rfl, 0, rfl⟩

theorem c_WordTwoS19 (n a b : Int) (ha : WOk n a) (hb : WOk n b) (w : World) :
    Calls Tryz.prog 114 #[.int .i64 19, .int .i64 n, .int .i64 a, .int .i64 b] w fun e w' => e = .returned (.tuple #[.int .i64 (twoV 19 n a b), .int .i64 n, .bool true]) ∧ ∃ m, w' = w.drewN m := by
  have hd1 : decide (WOk n a) = true := decide_eq_true ha
  have hd2 : decide (WOk n b) = true := decide_eq_true hb
  have hA : Hid (WOk n a) := ha
  have hB : Hid (WOk n b) := hb
  clear ha hb
  go_enter Tryz.func114, Tryz.ntmps114
  go_wp2_with (first | (go_at_call 89; refine (c_WordOkS _ _ _).mono ?_; rintro e w' ⟨rfl, rfl⟩) | (go_at_call 136; refine (c_l1SaysNo _ _ _ _ (by omega) _).mono ?_; rintro e w' ⟨rfl, rfl⟩) | (go_at_call 141; refine (c_l1Turn19 _ _ _ hA.out hB.out _).mono ?_; rintro e w' ⟨rfl, m, rfl⟩))
  go_ret3
  exact ⟨ret3 rfl rfl rfl, _, rfl⟩

theorem c_WordTwoS20 (n a b : Int) (ha : WOk n a) (hb : WOk n b) (w : World) :
    Calls Tryz.prog 114 #[.int .i64 20, .int .i64 n, .int .i64 a, .int .i64 b] w fun e w' => e = .returned (.tuple #[.int .i64 (twoV 20 n a b), .int .i64 n, .bool true]) ∧ ∃ m, w' = w.drewN m := by
  have hd1 : decide (WOk n a) = true := decide_eq_true ha
  have hd2 : decide (WOk n b) = true := decide_eq_true hb
  have hA : Hid (WOk n a) := ha
  have hB : Hid (WOk n b) := hb
  clear ha hb
  go_enter Tryz.func114, Tryz.ntmps114
  go_wp2_with (first | (go_at_call 89; refine (c_WordOkS _ _ _).mono ?_; rintro e w' ⟨rfl, rfl⟩) | (go_at_call 136; refine (c_l1SaysNo _ _ _ _ (by omega) _).mono ?_; rintro e w' ⟨rfl, rfl⟩) | (go_at_call 141; refine (c_l1Turn20 _ _ _ hA.out hB.out _).mono ?_; rintro e w' ⟨rfl, m, rfl⟩))
  go_ret3
  exact ⟨ret3 rfl rfl rfl, _, rfl⟩

theorem c_WordTwoS21 (n a b : Int) (ha : WOk n a) (hb : WOk n b) (w : World) :
    Calls Tryz.prog 114 #[.int .i64 21, .int .i64 n, .int .i64 a, .int .i64 b] w fun e w' => e = .returned (.tuple #[.int .i64 (twoV 21 n a b), .int .i64 1, .bool true]) ∧ ∃ m, w' = w.drewN m := by
  have hd1 : decide (WOk n a) = true := decide_eq_true ha
  have hd2 : decide (WOk n b) = true := decide_eq_true hb
  have hA : Hid (WOk n a) := ha
  have hB : Hid (WOk n b) := hb
  clear ha hb
  go_enter Tryz.func114, Tryz.ntmps114
  go_wp2_with (first | (go_at_call 89; refine (c_WordOkS _ _ _).mono ?_; rintro e w' ⟨rfl, rfl⟩) | (go_at_call 136; refine (c_l1Says21 _ _ _ hA.out hB.out _).mono ?_; rintro e w' ⟨rfl, rfl⟩) | (go_at_call 134; refine (c_l1Yes _ _).mono ?_; rintro e w' ⟨rfl, rfl⟩))
  go_ret3
  exact ⟨ret3 rfl rfl rfl, 0, rfl⟩

theorem c_WordTwoS22 (n a b : Int) (ha : WOk n a) (hb : WOk n b) (w : World) :
    Calls Tryz.prog 114 #[.int .i64 22, .int .i64 n, .int .i64 a, .int .i64 b] w fun e w' => e = .returned (.tuple #[.int .i64 (twoV 22 n a b), .int .i64 1, .bool true]) ∧ ∃ m, w' = w.drewN m := by
  have hd1 : decide (WOk n a) = true := decide_eq_true ha
  have hd2 : decide (WOk n b) = true := decide_eq_true hb
  have hA : Hid (WOk n a) := ha
  have hB : Hid (WOk n b) := hb
  clear ha hb
  go_enter Tryz.func114, Tryz.ntmps114
  go_wp2_with (first | (go_at_call 89; refine (c_WordOkS _ _ _).mono ?_; rintro e w' ⟨rfl, rfl⟩) | (go_at_call 136; refine (c_l1Says22 _ _ _ hA.out hB.out _).mono ?_; rintro e w' ⟨rfl, rfl⟩) | (go_at_call 134; refine (c_l1Yes _ _).mono ?_; rintro e w' ⟨rfl, rfl⟩))
  go_ret3
  exact ⟨ret3 rfl rfl rfl, 0, rfl⟩

theorem c_WordTwoS23 (n a b : Int) (ha : WOk n a) (hb : WOk n b) (w : World) :
    Calls Tryz.prog 114 #[.int .i64 23, .int .i64 n, .int .i64 a, .int .i64 b] w fun e w' => e = .returned (.tuple #[.int .i64 (twoV 23 n a b), .int .i64 1, .bool true]) ∧ ∃ m, w' = w.drewN m := by
  have hd1 : decide (WOk n a) = true := decide_eq_true ha
  have hd2 : decide (WOk n b) = true := decide_eq_true hb
  have hA : Hid (WOk n a) := ha
  have hB : Hid (WOk n b) := hb
  clear ha hb
  go_enter Tryz.func114, Tryz.ntmps114
  go_wp2_with (first | (go_at_call 89; refine (c_WordOkS _ _ _).mono ?_; rintro e w' ⟨rfl, rfl⟩) | (go_at_call 136; refine (c_l1Says23 _ _ _ hA.out hB.out _).mono ?_; rintro e w' ⟨rfl, rfl⟩) | (go_at_call 134; refine (c_l1Yes _ _).mono ?_; rintro e w' ⟨rfl, rfl⟩))
  go_ret3
  exact ⟨ret3 rfl rfl rfl, 0, rfl⟩

theorem c_WordTwoS24 (n a b : Int) (ha : WOk n a) (hb : WOk n b) (w : World) :
    Calls Tryz.prog 114 #[.int .i64 24, .int .i64 n, .int .i64 a, .int .i64 b] w fun e w' => e = .returned (.tuple #[.int .i64 (twoV 24 n a b), .int .i64 1, .bool true]) ∧ ∃ m, w' = w.drewN m := by
  have hd1 : decide (WOk n a) = true := decide_eq_true ha
  have hd2 : decide (WOk n b) = true := decide_eq_true hb
  have hA : Hid (WOk n a) := ha
  have hB : Hid (WOk n b) := hb
  clear ha hb
  go_enter Tryz.func114, Tryz.ntmps114
  go_wp2_with (first | (go_at_call 89; refine (c_WordOkS _ _ _).mono ?_; rintro e w' ⟨rfl, rfl⟩) | (go_at_call 136; refine (c_l1Says24 _ _ _ hA.out hB.out _).mono ?_; rintro e w' ⟨rfl, rfl⟩) | (go_at_call 134; refine (c_l1Yes _ _).mono ?_; rintro e w' ⟨rfl, rfl⟩))
  go_ret3
  exact ⟨ret3 rfl rfl rfl, 0, rfl⟩

theorem c_WordTwoS25 (n a b : Int) (ha : WOk n a) (hb : WOk n b) (w : World) :
    Calls Tryz.prog 114 #[.int .i64 25, .int .i64 n, .int .i64 a, .int .i64 b] w fun e w' => e = .returned (.tuple #[.int .i64 (twoV 25 n a b), .int .i64 1, .bool true]) ∧ ∃ m, w' = w.drewN m := by
  have hd1 : decide (WOk n a) = true := decide_eq_true ha
  have hd2 : decide (WOk n b) = true := decide_eq_true hb
  have hA : Hid (WOk n a) := ha
  have hB : Hid (WOk n b) := hb
  clear ha hb
  go_enter Tryz.func114, Tryz.ntmps114
  go_wp2_with (first | (go_at_call 89; refine (c_WordOkS _ _ _).mono ?_; rintro e w' ⟨rfl, rfl⟩) | (go_at_call 136; refine (c_l1Says25 _ _ _ hA.out hB.out _).mono ?_; rintro e w' ⟨rfl, rfl⟩) | (go_at_call 134; refine (c_l1Yes _ _).mono ?_; rintro e w' ⟨rfl, rfl⟩))
  go_ret3
  exact ⟨ret3 rfl rfl rfl, 0, rfl⟩

theorem c_WordTwoS26 (n a b : Int) (ha : WOk n a) (hb : WOk n b) (w : World) :
    Calls Tryz.prog 114 #[.int .i64 26, .int .i64 n, .int .i64 a, .int .i64 b] w fun e w' => e = .returned (.tuple #[.int .i64 (twoV 26 n a b), .int .i64 1, .bool true]) ∧ ∃ m, w' = w.drewN m := by
  have hd1 : decide (WOk n a) = true := decide_eq_true ha
  have hd2 : decide (WOk n b) = true := decide_eq_true hb
  have hA : Hid (WOk n a) := ha
  have hB : Hid (WOk n b) := hb
  clear ha hb
  go_enter Tryz.func114, Tryz.ntmps114
  go_wp2_with (first | (go_at_call 89; refine (c_WordOkS _ _ _).mono ?_; rintro e w' ⟨rfl, rfl⟩) | (go_at_call 136; refine (c_l1Says26 _ _ _ hA.out hB.out _).mono ?_; rintro e w' ⟨rfl, rfl⟩) | (go_at_call 134; refine (c_l1Yes _ _).mono ?_; rintro e w' ⟨rfl, rfl⟩))
  go_ret3
  exact ⟨ret3 rfl rfl rfl, 0, rfl⟩

theorem c_WordTwoS27 (n a b : Int) (ha : WOk n a) (hb : WOk n b) (w : World) :
    Calls Tryz.prog 114 #[.int .i64 27, .int .i64 n, .int .i64 a, .int .i64 b] w fun e w' => e = .returned (.tuple #[.int .i64 (twoV 27 n a b), .int .i64 1, .bool true]) ∧ ∃ m, w' = w.drewN m := by
  have hd1 : decide (WOk n a) = true := decide_eq_true ha
  have hd2 : decide (WOk n b) = true := decide_eq_true hb
  have hA : Hid (WOk n a) := ha
  have hB : Hid (WOk n b) := hb
  clear ha hb
  go_enter Tryz.func114, Tryz.ntmps114
  go_wp2_with (first | (go_at_call 89; refine (c_WordOkS _ _ _).mono ?_; rintro e w' ⟨rfl, rfl⟩) | (go_at_call 136; refine (c_l1Says27 _ _ _ hA.out hB.out _).mono ?_; rintro e w' ⟨rfl, rfl⟩) | (go_at_call 134; refine (c_l1Yes _ _).mono ?_; rintro e w' ⟨rfl, rfl⟩))
  go_ret3
  exact ⟨ret3 (by show _ = (((decide (sgn n (frm n (sgn n a + sgn n b)) ≠ sgn n a + sgn n b)).toNat : Nat) : Int); simp only [ne_eq, decide_not]) rfl rfl, 0, rfl⟩

theorem c_WordTwoS28 (n a b : Int) (ha : WOk n a) (hb : WOk n b) (w : World) :
    Calls Tryz.prog 114 #[.int .i64 28, .int .i64 n, .int .i64 a, .int .i64 b] w fun e w' => e = .returned (.tuple #[.int .i64 (twoV 28 n a b), .int .i64 1, .bool true]) ∧ ∃ m, w' = w.drewN m := by
  have hd1 : decide (WOk n a) = true := decide_eq_true ha
  have hd2 : decide (WOk n b) = true := decide_eq_true hb
  have hA : Hid (WOk n a) := ha
  have hB : Hid (WOk n b) := hb
  clear ha hb
  go_enter Tryz.func114, Tryz.ntmps114
  go_wp2_with (first | (go_at_call 89; refine (c_WordOkS _ _ _).mono ?_; rintro e w' ⟨rfl, rfl⟩) | (go_at_call 136; refine (c_l1Says28 _ _ _ hA.out hB.out _).mono ?_; rintro e w' ⟨rfl, rfl⟩) | (go_at_call 134; refine (c_l1Yes _ _).mono ?_; rintro e w' ⟨rfl, rfl⟩))
  go_ret3
  exact ⟨ret3 rfl rfl rfl, 0, rfl⟩

theorem c_WordTwoS (kind n a b : Int) (w : World) :
    Calls Tryz.prog 114 #[.int .i64 kind, .int .i64 n, .int .i64 a, .int .i64 b] w fun e w' => e = .returned (.tuple #[.int .i64 (twoR kind n a b).1, .int .i64 (twoR kind n a b).2.1, .bool (twoR kind n a b).2.2]) ∧ ∃ m, w' = w.drewN m := by
  by_cases hall : WOk n a ∧ WOk n b ∧ 6 ≤ kind ∧ kind ≤ 28
  · obtain ⟨ha, hb, h6, h28⟩ := hall
    rw [twoR_ok ha hb h6 h28]
    rcases (by omega : kind = 6 ∨ kind = 7 ∨ kind = 8 ∨ kind = 9 ∨ kind = 10 ∨ kind = 11 ∨ kind = 12 ∨ kind = 13 ∨ kind = 14 ∨ kind = 15 ∨ kind = 16 ∨ kind = 17 ∨ kind = 18 ∨ kind = 19 ∨ kind = 20 ∨ kind = 21 ∨ kind = 22 ∨ kind = 23 ∨ kind = 24 ∨ kind = 25 ∨ kind = 26 ∨ kind = 27 ∨ kind = 28) with rfl | rfl | rfl | rfl | rfl | rfl | rfl | rfl | rfl | rfl | rfl | rfl | rfl | rfl | rfl | rfl | rfl | rfl | rfl | rfl | rfl | rfl | rfl
    · exact c_WordTwoS6 n a b ha hb w
    · exact c_WordTwoS7 n a b ha hb w
    · exact c_WordTwoS8 n a b ha hb w
    · exact c_WordTwoS9 n a b ha hb w
    · exact c_WordTwoS10 n a b ha hb w
    · exact c_WordTwoS11 n a b ha hb w
    · exact c_WordTwoS12 n a b ha hb w
    · exact c_WordTwoS13 n a b ha hb w
    · exact c_WordTwoS14 n a b ha hb w
    · exact c_WordTwoS15 n a b ha hb w
    · exact c_WordTwoS16 n a b ha hb w
    · exact c_WordTwoS17 n a b ha hb w
    · exact c_WordTwoS18 n a b ha hb w
    · exact c_WordTwoS19 n a b ha hb w
    · exact c_WordTwoS20 n a b ha hb w
    · exact c_WordTwoS21 n a b ha hb w
    · exact c_WordTwoS22 n a b ha hb w
    · exact c_WordTwoS23 n a b ha hb w
    · exact c_WordTwoS24 n a b ha hb w
    · exact c_WordTwoS25 n a b ha hb w
    · exact c_WordTwoS26 n a b ha hb w
    · exact c_WordTwoS27 n a b ha hb w
    · exact c_WordTwoS28 n a b ha hb w
  · rw [twoR_no hall]
    by_cases ha : WOk n a
    · have hd1 : decide (WOk n a) = true := decide_eq_true ha
      by_cases hb : WOk n b
      · have hd2 : decide (WOk n b) = true := decide_eq_true hb
        have hk : kind < 6 ∨ 28 < kind := by
          by_cases h6 : 6 ≤ kind
          · by_cases h28 : kind ≤ 28
            · exact absurd ⟨ha, hb, h6, h28⟩ hall
            · omega
          · omega
        have e6 : (kind == 6) = false := by simp; omega
        have e7 : (kind == 7) = false := by simp; omega
        have e8 : (kind == 8) = false := by simp; omega
        have e9 : (kind == 9) = false := by simp; omega
        have e10 : (kind == 10) = false := by simp; omega
        have e11 : (kind == 11) = false := by simp; omega
        have e12 : (kind == 12) = false := by simp; omega
        have e13 : (kind == 13) = false := by simp; omega
        have e14 : (kind == 14) = false := by simp; omega
        have e15 : (kind == 15) = false := by simp; omega
        have e16 : (kind == 16) = false := by simp; omega
        have e17 : (kind == 17) = false := by simp; omega
        have e18 : (kind == 18) = false := by simp; omega
        have e19 : (kind == 19) = false := by simp; omega
        have e20 : (kind == 20) = false := by simp; omega
        have hk2 : Hid (kind < 21 ∨ 28 < kind) := by show kind < 21 ∨ 28 < kind; omega
        clear hall ha hb hk
        go_enter Tryz.func114, Tryz.ntmps114
        go_wp2_with (first | (go_at_call 89; refine (c_WordOkS _ _ _).mono ?_; rintro e w' ⟨rfl, rfl⟩) | (go_at_call 136; refine (c_l1SaysNo _ _ _ _ hk2.out _).mono ?_; rintro e w' ⟨rfl, rfl⟩))
        go_ret3
        exact ⟨rfl, 0, rfl⟩
      · have hd2 : decide (WOk n b) = false := decide_eq_false hb
        clear hall ha hb
        go_enter Tryz.func114, Tryz.ntmps114
        go_wp2_with (first | (go_at_call 89; refine (c_WordOkS _ _ _).mono ?_; rintro e w' ⟨rfl, rfl⟩))
        go_ret3
        exact ⟨rfl, 0, rfl⟩
    · have hd1 : decide (WOk n a) = false := decide_eq_false ha
      clear hall ha
      go_enter Tryz.func114, Tryz.ntmps114
      go_wp2_with (first | (go_at_call 89; refine (c_WordOkS _ _ _).mono ?_; rintro e w' ⟨rfl, rfl⟩))
      go_ret3
      exact ⟨rfl, 0, rfl⟩
end Go.Proofs.YtbkcecilbpngcaaGreat
