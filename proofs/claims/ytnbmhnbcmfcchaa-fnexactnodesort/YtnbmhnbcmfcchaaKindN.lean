/-
  What a kind has: parts, numbers, a name; names.
-/
import Derived.Test.YtnbmhnbcmfcchaaRows
import Derived.Test.YtnbmhnbcmfcchaaMath
import Derived.Test.YtnbmhnbcmfcchaaBase
import Derived.WalkKit
import Derived.ProofKit
import Derived.OpenShut
import Derived.WalkSpells
import Derived.WalkLawsBesides
import Derived.Outline
import Derived.BigQuiet
import Derived.Handy
import Derived.LoopTactic
import Derived.Deep.Light
namespace Go.Proofs.Ytnbmhnbcmfcchaa
open Go.ChangeShapes Go.WideShapes Go.ChangeAt Go.RowKit
set_option linter.unusedVariables false

/-- How many parts a kind has; -1 of none. -/
def pcN (k : Int) : Int := if 34 ≤ k ∧ k ≤ 36 then 0 else if (1 ≤ k ∧ k ≤ 5) ∨ (30 ≤ k ∧ k ≤ 32) then 1 else if (6 ≤ k ∧ k ≤ 29) ∨ k = 37 then 2 else if k = 33 ∨ k = 38 then 3 else -1
/-- How many numbers. -/
def ncN (k : Int) : Int := if k = 30 then 2 else if k = 34 ∨ k = 31 ∨ k = 32 then 1 else 0
def namedB (k : Int) : Bool := decide (k = 35 ∨ k = 36)
theorem pcN_cases (k : Int) : pcN k = -1 ∨ pcN k = 0 ∨ pcN k = 1 ∨ pcN k = 2 ∨ pcN k = 3 := by unfold pcN; (repeat' split) <;> omega

theorem c_l2Parts (k : Int) (w : World) :
    Calls Try.prog 26 #[.int .i64 k] w fun e w' => e = .returned (.int .i64 (pcN k)) ∧ w = w' := by
  go_enter Try.func26, Try.ntmps26
  go_wp2
  all_goals
    go_ret
    exact ⟨ret_int (by (go_light; (try simp only [beq_iff_eq, beq_eq_false_iff_ne, ne_eq] at *); unfold pcN; (repeat' split) <;> omega)), rfl⟩
/-- .. as the program has it: of no kind 0 and false. -/
def pcI (k : Int) : Int := if pcN k < 0 then 0 else pcN k
theorem c_partCount (k : Int) (w : World) :
    Calls Try.prog 42 #[.int .i64 k] w fun e w' => e = .returned (.tuple #[.int .i64 (pcI k), .bool (decide (0 ≤ pcN k))]) ∧ w = w' := by
  go_enter Try.func42, Try.ntmps42
  go_wp2
  all_goals
    go_ret2
    refine ⟨?_, rfl⟩
    go_light
    (try simp only [beq_iff_eq, beq_eq_false_iff_ne, ne_eq] at *)
    have h : pcN k = pcN k := rfl
    conv at h => rhs; unfold pcN
    refine congrArg Ending.returned (congrArg Value.tuple ?_)
    have e1 : pcI k = if pcN k < 0 then 0 else pcN k := rfl
    have : ∀ {a b : Int} {x y : Bool}, a = b → x = y → (#[Value.int .i64 a, Value.bool x] : Array Value) = #[.int .i64 b, .bool y] := by intro a b x y h1 h2; rw [h1, h2]
    refine this ?_ ?_
    · first | rfl | (rw [e1]; (repeat' split at h) <;> (repeat' split) <;> omega)
    · symm; first | rfl | (apply decide_eq_true; (repeat' split at h) <;> omega) | (apply decide_eq_false; (repeat' split at h) <;> omega)
theorem c_numberCount (k : Int) (w : World) :
    Calls Try.prog 44 #[.int .i64 k] w fun e w' => e = .returned (.int .i64 (ncN k)) ∧ w = w' := by
  go_enter Try.func44, Try.ntmps44
  go_wp2
  all_goals
    go_ret
    exact ⟨ret_int (by (go_light; (try simp only [beq_iff_eq, beq_eq_false_iff_ne, ne_eq] at *); unfold ncN; (repeat' split) <;> omega)), rfl⟩
theorem c_kindNamed (k : Int) (w : World) :
    Calls Try.prog 45 #[.int .i64 k] w fun e w' => e = .returned (.bool (namedB k)) ∧ w = w' := by
  by_cases h : k = 35
  · have h' : (k == 35) = true := by simpa using h
    go_enter Try.func45, Try.ntmps45
    go_wp2
    go_ret
    exact ⟨ret_bool (by unfold namedB; first | (simp [h]; done) | (by_cases h2 : k = 36 <;> simp [h, h2])), rfl⟩
  · have h' : (k == 35) = false := by simpa using h
    go_enter Try.func45, Try.ntmps45
    go_wp2
    go_ret
    exact ⟨ret_bool (by unfold namedB; first | (simp [h]; done) | (by_cases h2 : k = 36 <;> simp [h, h2])), rfl⟩

/-- A small letter, a digit. -/
def lowB (b : Int) : Bool := decide (97 ≤ b ∧ b ≤ 122)
def digB (b : Int) : Bool := decide (48 ≤ b ∧ b ≤ 57)
theorem c_isLetter (b : Int) (w : World) :
    Calls Try.prog 63 #[.int .u8 b] w fun e w' => e = .returned (.bool (lowB b)) ∧ w = w' := by
  by_cases h : 97 ≤ b
  · go_enter Try.func63, Try.ntmps63
    go_wp2
    go_ret
    exact ⟨ret_bool (by unfold lowB; simp [h]), rfl⟩
  · go_enter Try.func63, Try.ntmps63
    go_wp2
    go_ret
    exact ⟨ret_bool (by unfold lowB; simp; omega), rfl⟩
theorem c_isDigit (b : Int) (w : World) :
    Calls Try.prog 62 #[.int .u8 b] w fun e w' => e = .returned (.bool (digB b)) ∧ w = w' := by
  by_cases h : 48 ≤ b
  · go_enter Try.func62, Try.ntmps62
    go_wp2
    go_ret
    exact ⟨ret_bool (by unfold digB; simp [h]), rfl⟩
  · go_enter Try.func62, Try.ntmps62
    go_wp2
    go_ret
    exact ⟨ret_bool (by unfold digB; simp; omega), rfl⟩
end Go.Proofs.Ytnbmhnbcmfcchaa
