/-
  Parts: EvK, shortened.
-/
import Derived.Test.YtlcgimadbpagfaaGreatZEvI
namespace Go.Proofs.YtlcgimadbpagfaaGreat
open Go.Lib
open Go.ChangeShapes Go.WideShapes Go.ChangeAt Go.RowKit Go.Maps
set_option linter.unusedVariables false
set_option maxRecDepth 100000
def fam0 (k : Int) : Bool := decide (k = 34)
def fam1 (k : Int) : Bool := decide (1 ≤ k ∧ k ≤ 5)
def fam2 (k : Int) : Bool := decide (6 ≤ k ∧ k ≤ 28 ∧ ¬ k = 21)
def fam3 (k : Int) : Bool := decide (29 ≤ k ∧ k ≤ 32)
def fam4 (k : Int) : Bool := decide (k = 21 ∨ k = 33 ∨ k = 37 ∨ k = 38)
set_option maxHeartbeats 4000000 in
theorem c_has0 (k : Int) (w : World) : Calls Tryz.prog 259 #[.agg #[], .int .i64 k] w fun e w' => e = .returned (.bool (fam0 k)) ∧ Below w.heap.size w w' := by
 by_cases q0 : k = 34
 ·have d0 : decide (k = 34) = true := decide_eq_true q0
  have HF := hid (show fam0 k = true from by unfold fam0; first | exact decide_eq_true (by omega) | exact decide_eq_false (by omega))
  go_enter Tryz.func259, Tryz.ntmps259
  go_wp2_with fail
  go_ret
  exact ⟨congrArg (fun b => Ending.returned (Value.bool b)) (by first | exact HF.out.symm | decide | (rw [HF.out]; simp; omega) | (rw [HF.out]; simp [*])), by go_grown⟩
 ·have d0 : decide (k = 34) = false := decide_eq_false q0
  have HF := hid (show fam0 k = false from by unfold fam0; first | exact decide_eq_true (by omega) | exact decide_eq_false (by omega))
  go_enter Tryz.func259, Tryz.ntmps259
  go_wp2_with fail
  go_ret
  exact ⟨congrArg (fun b => Ending.returned (Value.bool b)) (by first | exact HF.out.symm | decide | (rw [HF.out]; simp; omega) | (rw [HF.out]; simp [*])), by go_grown⟩
set_option maxHeartbeats 4000000 in
theorem c_has1 (k : Int) (w : World) : Calls Tryz.prog 260 #[.agg #[], .int .i64 k] w fun e w' => e = .returned (.bool (fam1 k)) ∧ Below w.heap.size w w' := by
 by_cases q0 : 1 ≤ k
 ·by_cases q1 : k ≤ 5
  ·have d0 : decide (1 ≤ k) = true := decide_eq_true q0
   have d1 : decide (k ≤ 5) = true := decide_eq_true q1
   have HF := hid (show fam1 k = true from by unfold fam1; first | exact decide_eq_true (by omega) | exact decide_eq_false (by omega))
   go_enter Tryz.func260, Tryz.ntmps260
   go_wp2_with fail
   go_ret
   exact ⟨congrArg (fun b => Ending.returned (Value.bool b)) (by first | exact HF.out.symm | decide | (rw [HF.out]; simp; omega) | (rw [HF.out]; simp [*])), by go_grown⟩
  ·have d0 : decide (1 ≤ k) = true := decide_eq_true q0
   have d1 : decide (k ≤ 5) = false := decide_eq_false q1
   have HF := hid (show fam1 k = false from by unfold fam1; first | exact decide_eq_true (by omega) | exact decide_eq_false (by omega))
   go_enter Tryz.func260, Tryz.ntmps260
   go_wp2_with fail
   go_ret
   exact ⟨congrArg (fun b => Ending.returned (Value.bool b)) (by first | exact HF.out.symm | decide | (rw [HF.out]; simp; omega) | (rw [HF.out]; simp [*])), by go_grown⟩
 ·by_cases q1 : k ≤ 5
  ·have d0 : decide (1 ≤ k) = false := decide_eq_false q0
   have d1 : decide (k ≤ 5) = true := decide_eq_true q1
   have HF := hid (show fam1 k = false from by unfold fam1; first | exact decide_eq_true (by omega) | exact decide_eq_false (by omega))
   go_enter Tryz.func260, Tryz.ntmps260
   go_wp2_with fail
   go_ret
   exact ⟨congrArg (fun b => Ending.returned (Value.bool b)) (by first | exact HF.out.symm | decide | (rw [HF.out]; simp; omega) | (rw [HF.out]; simp [*])), by go_grown⟩
  ·have d0 : decide (1 ≤ k) = false := decide_eq_false q0
   have d1 : decide (k ≤ 5) = false := decide_eq_false q1
   have HF := hid (show fam1 k = false from by unfold fam1; first | exact decide_eq_true (by omega) | exact decide_eq_false (by omega))
   go_enter Tryz.func260, Tryz.ntmps260
   go_wp2_with fail
   go_ret
   exact ⟨congrArg (fun b => Ending.returned (Value.bool b)) (by first | exact HF.out.symm | decide | (rw [HF.out]; simp; omega) | (rw [HF.out]; simp [*])), by go_grown⟩
set_option maxHeartbeats 4000000 in
theorem c_has2 (k : Int) (w : World) : Calls Tryz.prog 261 #[.agg #[], .int .i64 k] w fun e w' => e = .returned (.bool (fam2 k)) ∧ Below w.heap.size w w' := by
 by_cases q0 : 6 ≤ k
 ·by_cases q1 : k ≤ 28
  ·by_cases q2 : k = 21
   ·have d0 : decide (6 ≤ k) = true := decide_eq_true q0
    have d1 : decide (k ≤ 28) = true := decide_eq_true q1
    have d2 : decide (k = 21) = true := decide_eq_true q2
    have HF := hid (show fam2 k = false from by unfold fam2; first | exact decide_eq_true (by omega) | exact decide_eq_false (by omega))
    go_enter Tryz.func261, Tryz.ntmps261
    go_wp2_with fail
    go_ret
    exact ⟨congrArg (fun b => Ending.returned (Value.bool b)) (by first | exact HF.out.symm | decide | (rw [HF.out]; simp; omega) | (rw [HF.out]; simp [*])), by go_grown⟩
   ·have d0 : decide (6 ≤ k) = true := decide_eq_true q0
    have d1 : decide (k ≤ 28) = true := decide_eq_true q1
    have d2 : decide (k = 21) = false := decide_eq_false q2
    have HF := hid (show fam2 k = true from by unfold fam2; first | exact decide_eq_true (by omega) | exact decide_eq_false (by omega))
    go_enter Tryz.func261, Tryz.ntmps261
    go_wp2_with fail
    go_ret
    exact ⟨congrArg (fun b => Ending.returned (Value.bool b)) (by first | exact HF.out.symm | decide | (rw [HF.out]; simp; omega) | (rw [HF.out]; simp [*])), by go_grown⟩
  ·by_cases q2 : k = 21
   ·have d0 : decide (6 ≤ k) = true := decide_eq_true q0
    have d1 : decide (k ≤ 28) = false := decide_eq_false q1
    have d2 : decide (k = 21) = true := decide_eq_true q2
    have HF := hid (show fam2 k = false from by unfold fam2; first | exact decide_eq_true (by omega) | exact decide_eq_false (by omega))
    go_enter Tryz.func261, Tryz.ntmps261
    go_wp2_with fail
    go_ret
    exact ⟨congrArg (fun b => Ending.returned (Value.bool b)) (by first | exact HF.out.symm | decide | (rw [HF.out]; simp; omega) | (rw [HF.out]; simp [*])), by go_grown⟩
   ·have d0 : decide (6 ≤ k) = true := decide_eq_true q0
    have d1 : decide (k ≤ 28) = false := decide_eq_false q1
    have d2 : decide (k = 21) = false := decide_eq_false q2
    have HF := hid (show fam2 k = false from by unfold fam2; first | exact decide_eq_true (by omega) | exact decide_eq_false (by omega))
    go_enter Tryz.func261, Tryz.ntmps261
    go_wp2_with fail
    go_ret
    exact ⟨congrArg (fun b => Ending.returned (Value.bool b)) (by first | exact HF.out.symm | decide | (rw [HF.out]; simp; omega) | (rw [HF.out]; simp [*])), by go_grown⟩
 ·by_cases q1 : k ≤ 28
  ·by_cases q2 : k = 21
   ·have d0 : decide (6 ≤ k) = false := decide_eq_false q0
    have d1 : decide (k ≤ 28) = true := decide_eq_true q1
    have d2 : decide (k = 21) = true := decide_eq_true q2
    have HF := hid (show fam2 k = false from by unfold fam2; first | exact decide_eq_true (by omega) | exact decide_eq_false (by omega))
    go_enter Tryz.func261, Tryz.ntmps261
    go_wp2_with fail
    go_ret
    exact ⟨congrArg (fun b => Ending.returned (Value.bool b)) (by first | exact HF.out.symm | decide | (rw [HF.out]; simp; omega) | (rw [HF.out]; simp [*])), by go_grown⟩
   ·have d0 : decide (6 ≤ k) = false := decide_eq_false q0
    have d1 : decide (k ≤ 28) = true := decide_eq_true q1
    have d2 : decide (k = 21) = false := decide_eq_false q2
    have HF := hid (show fam2 k = false from by unfold fam2; first | exact decide_eq_true (by omega) | exact decide_eq_false (by omega))
    go_enter Tryz.func261, Tryz.ntmps261
    go_wp2_with fail
    go_ret
    exact ⟨congrArg (fun b => Ending.returned (Value.bool b)) (by first | exact HF.out.symm | decide | (rw [HF.out]; simp; omega) | (rw [HF.out]; simp [*])), by go_grown⟩
  ·by_cases q2 : k = 21
   ·have d0 : decide (6 ≤ k) = false := decide_eq_false q0
    have d1 : decide (k ≤ 28) = false := decide_eq_false q1
    have d2 : decide (k = 21) = true := decide_eq_true q2
    have HF := hid (show fam2 k = false from by unfold fam2; first | exact decide_eq_true (by omega) | exact decide_eq_false (by omega))
    go_enter Tryz.func261, Tryz.ntmps261
    go_wp2_with fail
    go_ret
    exact ⟨congrArg (fun b => Ending.returned (Value.bool b)) (by first | exact HF.out.symm | decide | (rw [HF.out]; simp; omega) | (rw [HF.out]; simp [*])), by go_grown⟩
   ·have d0 : decide (6 ≤ k) = false := decide_eq_false q0
    have d1 : decide (k ≤ 28) = false := decide_eq_false q1
    have d2 : decide (k = 21) = false := decide_eq_false q2
    have HF := hid (show fam2 k = false from by unfold fam2; first | exact decide_eq_true (by omega) | exact decide_eq_false (by omega))
    go_enter Tryz.func261, Tryz.ntmps261
    go_wp2_with fail
    go_ret
    exact ⟨congrArg (fun b => Ending.returned (Value.bool b)) (by first | exact HF.out.symm | decide | (rw [HF.out]; simp; omega) | (rw [HF.out]; simp [*])), by go_grown⟩
set_option maxHeartbeats 4000000 in
theorem c_has3 (k : Int) (w : World) : Calls Tryz.prog 262 #[.agg #[], .int .i64 k] w fun e w' => e = .returned (.bool (fam3 k)) ∧ Below w.heap.size w w' := by
 by_cases q0 : 29 ≤ k
 ·by_cases q1 : k ≤ 32
  ·have d0 : decide (29 ≤ k) = true := decide_eq_true q0
   have d1 : decide (k ≤ 32) = true := decide_eq_true q1
   have HF := hid (show fam3 k = true from by unfold fam3; first | exact decide_eq_true (by omega) | exact decide_eq_false (by omega))
   go_enter Tryz.func262, Tryz.ntmps262
   go_wp2_with fail
   go_ret
   exact ⟨congrArg (fun b => Ending.returned (Value.bool b)) (by first | exact HF.out.symm | decide | (rw [HF.out]; simp; omega) | (rw [HF.out]; simp [*])), by go_grown⟩
  ·have d0 : decide (29 ≤ k) = true := decide_eq_true q0
   have d1 : decide (k ≤ 32) = false := decide_eq_false q1
   have HF := hid (show fam3 k = false from by unfold fam3; first | exact decide_eq_true (by omega) | exact decide_eq_false (by omega))
   go_enter Tryz.func262, Tryz.ntmps262
   go_wp2_with fail
   go_ret
   exact ⟨congrArg (fun b => Ending.returned (Value.bool b)) (by first | exact HF.out.symm | decide | (rw [HF.out]; simp; omega) | (rw [HF.out]; simp [*])), by go_grown⟩
 ·by_cases q1 : k ≤ 32
  ·have d0 : decide (29 ≤ k) = false := decide_eq_false q0
   have d1 : decide (k ≤ 32) = true := decide_eq_true q1
   have HF := hid (show fam3 k = false from by unfold fam3; first | exact decide_eq_true (by omega) | exact decide_eq_false (by omega))
   go_enter Tryz.func262, Tryz.ntmps262
   go_wp2_with fail
   go_ret
   exact ⟨congrArg (fun b => Ending.returned (Value.bool b)) (by first | exact HF.out.symm | decide | (rw [HF.out]; simp; omega) | (rw [HF.out]; simp [*])), by go_grown⟩
  ·have d0 : decide (29 ≤ k) = false := decide_eq_false q0
   have d1 : decide (k ≤ 32) = false := decide_eq_false q1
   have HF := hid (show fam3 k = false from by unfold fam3; first | exact decide_eq_true (by omega) | exact decide_eq_false (by omega))
   go_enter Tryz.func262, Tryz.ntmps262
   go_wp2_with fail
   go_ret
   exact ⟨congrArg (fun b => Ending.returned (Value.bool b)) (by first | exact HF.out.symm | decide | (rw [HF.out]; simp; omega) | (rw [HF.out]; simp [*])), by go_grown⟩
set_option maxHeartbeats 4000000 in
theorem c_has4 (k : Int) (w : World) : Calls Tryz.prog 263 #[.agg #[], .int .i64 k] w fun e w' => e = .returned (.bool (fam4 k)) ∧ Below w.heap.size w w' := by
 by_cases q0 : k = 21
 ·by_cases q1 : k = 33
  ·by_cases q2 : k = 37
   ·by_cases q3 : k = 38
    ·have d0 : decide (k = 21) = true := decide_eq_true q0
     have d1 : decide (k = 33) = true := decide_eq_true q1
     have d2 : decide (k = 37) = true := decide_eq_true q2
     have d3 : decide (k = 38) = true := decide_eq_true q3
     have HF := hid (show fam4 k = true from by unfold fam4; first | exact decide_eq_true (by omega) | exact decide_eq_false (by omega))
     go_enter Tryz.func263, Tryz.ntmps263
     go_wp2_with fail
     go_ret
     exact ⟨congrArg (fun b => Ending.returned (Value.bool b)) (by first | exact HF.out.symm | decide | (rw [HF.out]; simp; omega) | (rw [HF.out]; simp [*])), by go_grown⟩
    ·have d0 : decide (k = 21) = true := decide_eq_true q0
     have d1 : decide (k = 33) = true := decide_eq_true q1
     have d2 : decide (k = 37) = true := decide_eq_true q2
     have d3 : decide (k = 38) = false := decide_eq_false q3
     have HF := hid (show fam4 k = true from by unfold fam4; first | exact decide_eq_true (by omega) | exact decide_eq_false (by omega))
     go_enter Tryz.func263, Tryz.ntmps263
     go_wp2_with fail
     go_ret
     exact ⟨congrArg (fun b => Ending.returned (Value.bool b)) (by first | exact HF.out.symm | decide | (rw [HF.out]; simp; omega) | (rw [HF.out]; simp [*])), by go_grown⟩
   ·by_cases q3 : k = 38
    ·have d0 : decide (k = 21) = true := decide_eq_true q0
     have d1 : decide (k = 33) = true := decide_eq_true q1
     have d2 : decide (k = 37) = false := decide_eq_false q2
     have d3 : decide (k = 38) = true := decide_eq_true q3
     have HF := hid (show fam4 k = true from by unfold fam4; first | exact decide_eq_true (by omega) | exact decide_eq_false (by omega))
     go_enter Tryz.func263, Tryz.ntmps263
     go_wp2_with fail
     go_ret
     exact ⟨congrArg (fun b => Ending.returned (Value.bool b)) (by first | exact HF.out.symm | decide | (rw [HF.out]; simp; omega) | (rw [HF.out]; simp [*])), by go_grown⟩
    ·have d0 : decide (k = 21) = true := decide_eq_true q0
     have d1 : decide (k = 33) = true := decide_eq_true q1
     have d2 : decide (k = 37) = false := decide_eq_false q2
     have d3 : decide (k = 38) = false := decide_eq_false q3
     have HF := hid (show fam4 k = true from by unfold fam4; first | exact decide_eq_true (by omega) | exact decide_eq_false (by omega))
     go_enter Tryz.func263, Tryz.ntmps263
     go_wp2_with fail
     go_ret
     exact ⟨congrArg (fun b => Ending.returned (Value.bool b)) (by first | exact HF.out.symm | decide | (rw [HF.out]; simp; omega) | (rw [HF.out]; simp [*])), by go_grown⟩
  ·by_cases q2 : k = 37
   ·by_cases q3 : k = 38
    ·have d0 : decide (k = 21) = true := decide_eq_true q0
     have d1 : decide (k = 33) = false := decide_eq_false q1
     have d2 : decide (k = 37) = true := decide_eq_true q2
     have d3 : decide (k = 38) = true := decide_eq_true q3
     have HF := hid (show fam4 k = true from by unfold fam4; first | exact decide_eq_true (by omega) | exact decide_eq_false (by omega))
     go_enter Tryz.func263, Tryz.ntmps263
     go_wp2_with fail
     go_ret
     exact ⟨congrArg (fun b => Ending.returned (Value.bool b)) (by first | exact HF.out.symm | decide | (rw [HF.out]; simp; omega) | (rw [HF.out]; simp [*])), by go_grown⟩
    ·have d0 : decide (k = 21) = true := decide_eq_true q0
     have d1 : decide (k = 33) = false := decide_eq_false q1
     have d2 : decide (k = 37) = true := decide_eq_true q2
     have d3 : decide (k = 38) = false := decide_eq_false q3
     have HF := hid (show fam4 k = true from by unfold fam4; first | exact decide_eq_true (by omega) | exact decide_eq_false (by omega))
     go_enter Tryz.func263, Tryz.ntmps263
     go_wp2_with fail
     go_ret
     exact ⟨congrArg (fun b => Ending.returned (Value.bool b)) (by first | exact HF.out.symm | decide | (rw [HF.out]; simp; omega) | (rw [HF.out]; simp [*])), by go_grown⟩
   ·by_cases q3 : k = 38
    ·have d0 : decide (k = 21) = true := decide_eq_true q0
     have d1 : decide (k = 33) = false := decide_eq_false q1
     have d2 : decide (k = 37) = false := decide_eq_false q2
     have d3 : decide (k = 38) = true := decide_eq_true q3
     have HF := hid (show fam4 k = true from by unfold fam4; first | exact decide_eq_true (by omega) | exact decide_eq_false (by omega))
     go_enter Tryz.func263, Tryz.ntmps263
     go_wp2_with fail
     go_ret
     exact ⟨congrArg (fun b => Ending.returned (Value.bool b)) (by first | exact HF.out.symm | decide | (rw [HF.out]; simp; omega) | (rw [HF.out]; simp [*])), by go_grown⟩
    ·have d0 : decide (k = 21) = true := decide_eq_true q0
     have d1 : decide (k = 33) = false := decide_eq_false q1
     have d2 : decide (k = 37) = false := decide_eq_false q2
     have d3 : decide (k = 38) = false := decide_eq_false q3
     have HF := hid (show fam4 k = true from by unfold fam4; first | exact decide_eq_true (by omega) | exact decide_eq_false (by omega))
     go_enter Tryz.func263, Tryz.ntmps263
     go_wp2_with fail
     go_ret
     exact ⟨congrArg (fun b => Ending.returned (Value.bool b)) (by first | exact HF.out.symm | decide | (rw [HF.out]; simp; omega) | (rw [HF.out]; simp [*])), by go_grown⟩
 ·by_cases q1 : k = 33
  ·by_cases q2 : k = 37
   ·by_cases q3 : k = 38
    ·have d0 : decide (k = 21) = false := decide_eq_false q0
     have d1 : decide (k = 33) = true := decide_eq_true q1
     have d2 : decide (k = 37) = true := decide_eq_true q2
     have d3 : decide (k = 38) = true := decide_eq_true q3
     have HF := hid (show fam4 k = true from by unfold fam4; first | exact decide_eq_true (by omega) | exact decide_eq_false (by omega))
     go_enter Tryz.func263, Tryz.ntmps263
     go_wp2_with fail
     go_ret
     exact ⟨congrArg (fun b => Ending.returned (Value.bool b)) (by first | exact HF.out.symm | decide | (rw [HF.out]; simp; omega) | (rw [HF.out]; simp [*])), by go_grown⟩
    ·have d0 : decide (k = 21) = false := decide_eq_false q0
     have d1 : decide (k = 33) = true := decide_eq_true q1
     have d2 : decide (k = 37) = true := decide_eq_true q2
     have d3 : decide (k = 38) = false := decide_eq_false q3
     have HF := hid (show fam4 k = true from by unfold fam4; first | exact decide_eq_true (by omega) | exact decide_eq_false (by omega))
     go_enter Tryz.func263, Tryz.ntmps263
     go_wp2_with fail
     go_ret
     exact ⟨congrArg (fun b => Ending.returned (Value.bool b)) (by first | exact HF.out.symm | decide | (rw [HF.out]; simp; omega) | (rw [HF.out]; simp [*])), by go_grown⟩
   ·by_cases q3 : k = 38
    ·have d0 : decide (k = 21) = false := decide_eq_false q0
     have d1 : decide (k = 33) = true := decide_eq_true q1
     have d2 : decide (k = 37) = false := decide_eq_false q2
     have d3 : decide (k = 38) = true := decide_eq_true q3
     have HF := hid (show fam4 k = true from by unfold fam4; first | exact decide_eq_true (by omega) | exact decide_eq_false (by omega))
     go_enter Tryz.func263, Tryz.ntmps263
     go_wp2_with fail
     go_ret
     exact ⟨congrArg (fun b => Ending.returned (Value.bool b)) (by first | exact HF.out.symm | decide | (rw [HF.out]; simp; omega) | (rw [HF.out]; simp [*])), by go_grown⟩
    ·have d0 : decide (k = 21) = false := decide_eq_false q0
     have d1 : decide (k = 33) = true := decide_eq_true q1
     have d2 : decide (k = 37) = false := decide_eq_false q2
     have d3 : decide (k = 38) = false := decide_eq_false q3
     have HF := hid (show fam4 k = true from by unfold fam4; first | exact decide_eq_true (by omega) | exact decide_eq_false (by omega))
     go_enter Tryz.func263, Tryz.ntmps263
     go_wp2_with fail
     go_ret
     exact ⟨congrArg (fun b => Ending.returned (Value.bool b)) (by first | exact HF.out.symm | decide | (rw [HF.out]; simp; omega) | (rw [HF.out]; simp [*])), by go_grown⟩
  ·by_cases q2 : k = 37
   ·by_cases q3 : k = 38
    ·have d0 : decide (k = 21) = false := decide_eq_false q0
     have d1 : decide (k = 33) = false := decide_eq_false q1
     have d2 : decide (k = 37) = true := decide_eq_true q2
     have d3 : decide (k = 38) = true := decide_eq_true q3
     have HF := hid (show fam4 k = true from by unfold fam4; first | exact decide_eq_true (by omega) | exact decide_eq_false (by omega))
     go_enter Tryz.func263, Tryz.ntmps263
     go_wp2_with fail
     go_ret
     exact ⟨congrArg (fun b => Ending.returned (Value.bool b)) (by first | exact HF.out.symm | decide | (rw [HF.out]; simp; omega) | (rw [HF.out]; simp [*])), by go_grown⟩
    ·have d0 : decide (k = 21) = false := decide_eq_false q0
     have d1 : decide (k = 33) = false := decide_eq_false q1
     have d2 : decide (k = 37) = true := decide_eq_true q2
     have d3 : decide (k = 38) = false := decide_eq_false q3
     have HF := hid (show fam4 k = true from by unfold fam4; first | exact decide_eq_true (by omega) | exact decide_eq_false (by omega))
     go_enter Tryz.func263, Tryz.ntmps263
     go_wp2_with fail
     go_ret
     exact ⟨congrArg (fun b => Ending.returned (Value.bool b)) (by first | exact HF.out.symm | decide | (rw [HF.out]; simp; omega) | (rw [HF.out]; simp [*])), by go_grown⟩
   ·by_cases q3 : k = 38
    ·have d0 : decide (k = 21) = false := decide_eq_false q0
     have d1 : decide (k = 33) = false := decide_eq_false q1
     have d2 : decide (k = 37) = false := decide_eq_false q2
     have d3 : decide (k = 38) = true := decide_eq_true q3
     have HF := hid (show fam4 k = true from by unfold fam4; first | exact decide_eq_true (by omega) | exact decide_eq_false (by omega))
     go_enter Tryz.func263, Tryz.ntmps263
     go_wp2_with fail
     go_ret
     exact ⟨congrArg (fun b => Ending.returned (Value.bool b)) (by first | exact HF.out.symm | decide | (rw [HF.out]; simp; omega) | (rw [HF.out]; simp [*])), by go_grown⟩
    ·have d0 : decide (k = 21) = false := decide_eq_false q0
     have d1 : decide (k = 33) = false := decide_eq_false q1
     have d2 : decide (k = 37) = false := decide_eq_false q2
     have d3 : decide (k = 38) = false := decide_eq_false q3
     have HF := hid (show fam4 k = false from by unfold fam4; first | exact decide_eq_true (by omega) | exact decide_eq_false (by omega))
     go_enter Tryz.func263, Tryz.ntmps263
     go_wp2_with fail
     go_ret
     exact ⟨congrArg (fun b => Ending.returned (Value.bool b)) (by first | exact HF.out.symm | decide | (rw [HF.out]; simp; omega) | (rw [HF.out]; simp [*])), by go_grown⟩
theorem ixFam0 (w : World) : (Instr.index 188 (.agg #[.iface 157 (.agg #[]), .iface 159 (.agg #[]), .iface 161 (.agg #[]), .iface 163 (.agg #[]), .iface 165 (.agg #[])]) (.int .i64 0)).run Tryz.prog w = .ok (.iface 157 (.agg #[])) w := by kernel_rfl
theorem ixFam1 (w : World) : (Instr.index 188 (.agg #[.iface 157 (.agg #[]), .iface 159 (.agg #[]), .iface 161 (.agg #[]), .iface 163 (.agg #[]), .iface 165 (.agg #[])]) (.int .i64 1)).run Tryz.prog w = .ok (.iface 159 (.agg #[])) w := by kernel_rfl
theorem ixFam2 (w : World) : (Instr.index 188 (.agg #[.iface 157 (.agg #[]), .iface 159 (.agg #[]), .iface 161 (.agg #[]), .iface 163 (.agg #[]), .iface 165 (.agg #[])]) (.int .i64 2)).run Tryz.prog w = .ok (.iface 161 (.agg #[])) w := by kernel_rfl
theorem ixFam3 (w : World) : (Instr.index 188 (.agg #[.iface 157 (.agg #[]), .iface 159 (.agg #[]), .iface 161 (.agg #[]), .iface 163 (.agg #[]), .iface 165 (.agg #[])]) (.int .i64 3)).run Tryz.prog w = .ok (.iface 163 (.agg #[])) w := by kernel_rfl
theorem ixFam4 (w : World) : (Instr.index 188 (.agg #[.iface 157 (.agg #[]), .iface 159 (.agg #[]), .iface 161 (.agg #[]), .iface 163 (.agg #[]), .iface 165 (.agg #[])]) (.int .i64 4)).run Tryz.prog w = .ok (.iface 165 (.agg #[])) w := by kernel_rfl
set_option maxHeartbeats 4000000 in
theorem c_kindFamily0 (k : Int) (w : World)  (y0 : fam0 k = true) : Calls Tryz.prog 130 #[.int .i64 k] w fun e w' => e = .returned (.iface 157 (.agg #[])) ∧ Below w.heap.size w w' := by
 have HY := hid y0
 clear y0
 go_enter Tryz.func130, Tryz.ntmps130
 go_wp2_with fail
 go_loopw [16] (fun i wr => ∃ j : Nat, j ≤ 0 ∧ i = .int .i64 j ∧ Below w.heap.size w wr) (fun i _ => 5 - (intOf i).toNat)
 case atStart => exact ⟨0, by omega, rfl, Below.refl _ _⟩
 case round =>
  obtain ⟨j, hj, rfl, hb⟩ := hrel
  have HB := hid hb
  clear hb
  have hjc : j = 0 := by omega
  rcases hjc with rfl
  ·have hix := ixFam0 wr
   go_wp2_with fail
   clear hix
   refine (c_has0 k wr).mono ?_
   rintro e w1 ⟨rfl, hq⟩
   have HB1 := hid (HB.out.trans (hq.mono HB.out.size))
   clear hq
   rw [HY.out]
   go_wp2_with fail
   go_ret
   exact ⟨rfl, HB1.out⟩
set_option maxHeartbeats 4000000 in
theorem c_kindFamily1 (k : Int) (w : World) (n0 : fam0 k = false) (y1 : fam1 k = true) : Calls Tryz.prog 130 #[.int .i64 k] w fun e w' => e = .returned (.iface 159 (.agg #[])) ∧ Below w.heap.size w w' := by
 have HN0 := hid n0
 clear n0
 have HY := hid y1
 clear y1
 go_enter Tryz.func130, Tryz.ntmps130
 go_wp2_with fail
 go_loopw [16] (fun i wr => ∃ j : Nat, j ≤ 1 ∧ i = .int .i64 j ∧ Below w.heap.size w wr) (fun i _ => 5 - (intOf i).toNat)
 case atStart => exact ⟨0, by omega, rfl, Below.refl _ _⟩
 case round =>
  obtain ⟨j, hj, rfl, hb⟩ := hrel
  have HB := hid hb
  clear hb
  have hjc : j = 0 ∨ j = 1 := by omega
  rcases hjc with rfl | rfl
  ·have hix := ixFam0 wr
   go_wp2_with fail
   clear hix
   refine (c_has0 k wr).mono ?_
   rintro e w1 ⟨rfl, hq⟩
   have HB1 := hid (HB.out.trans (hq.mono HB.out.size))
   clear hq
   rw [HN0.out]
   go_wp2_with fail
   go_roundw
   case rel => exact ⟨1, by omega, rfl, HB1.out⟩
   case measure => simp [intOf]
  ·have hix := ixFam1 wr
   go_wp2_with fail
   clear hix
   refine (c_has1 k wr).mono ?_
   rintro e w1 ⟨rfl, hq⟩
   have HB1 := hid (HB.out.trans (hq.mono HB.out.size))
   clear hq
   rw [HY.out]
   go_wp2_with fail
   go_ret
   exact ⟨rfl, HB1.out⟩
set_option maxHeartbeats 4000000 in
theorem c_kindFamily2 (k : Int) (w : World) (n0 : fam0 k = false) (n1 : fam1 k = false) (y2 : fam2 k = true) : Calls Tryz.prog 130 #[.int .i64 k] w fun e w' => e = .returned (.iface 161 (.agg #[])) ∧ Below w.heap.size w w' := by
 have HN0 := hid n0
 clear n0
 have HN1 := hid n1
 clear n1
 have HY := hid y2
 clear y2
 go_enter Tryz.func130, Tryz.ntmps130
 go_wp2_with fail
 go_loopw [16] (fun i wr => ∃ j : Nat, j ≤ 2 ∧ i = .int .i64 j ∧ Below w.heap.size w wr) (fun i _ => 5 - (intOf i).toNat)
 case atStart => exact ⟨0, by omega, rfl, Below.refl _ _⟩
 case round =>
  obtain ⟨j, hj, rfl, hb⟩ := hrel
  have HB := hid hb
  clear hb
  have hjc : j = 0 ∨ j = 1 ∨ j = 2 := by omega
  rcases hjc with rfl | rfl | rfl
  ·have hix := ixFam0 wr
   go_wp2_with fail
   clear hix
   refine (c_has0 k wr).mono ?_
   rintro e w1 ⟨rfl, hq⟩
   have HB1 := hid (HB.out.trans (hq.mono HB.out.size))
   clear hq
   rw [HN0.out]
   go_wp2_with fail
   go_roundw
   case rel => exact ⟨1, by omega, rfl, HB1.out⟩
   case measure => simp [intOf]
  ·have hix := ixFam1 wr
   go_wp2_with fail
   clear hix
   refine (c_has1 k wr).mono ?_
   rintro e w1 ⟨rfl, hq⟩
   have HB1 := hid (HB.out.trans (hq.mono HB.out.size))
   clear hq
   rw [HN1.out]
   go_wp2_with fail
   go_roundw
   case rel => exact ⟨2, by omega, rfl, HB1.out⟩
   case measure => simp [intOf]
  ·have hix := ixFam2 wr
   go_wp2_with fail
   clear hix
   refine (c_has2 k wr).mono ?_
   rintro e w1 ⟨rfl, hq⟩
   have HB1 := hid (HB.out.trans (hq.mono HB.out.size))
   clear hq
   rw [HY.out]
   go_wp2_with fail
   go_ret
   exact ⟨rfl, HB1.out⟩
set_option maxHeartbeats 4000000 in
theorem c_kindFamily3 (k : Int) (w : World) (n0 : fam0 k = false) (n1 : fam1 k = false) (n2 : fam2 k = false) (y3 : fam3 k = true) : Calls Tryz.prog 130 #[.int .i64 k] w fun e w' => e = .returned (.iface 163 (.agg #[])) ∧ Below w.heap.size w w' := by
 have HN0 := hid n0
 clear n0
 have HN1 := hid n1
 clear n1
 have HN2 := hid n2
 clear n2
 have HY := hid y3
 clear y3
 go_enter Tryz.func130, Tryz.ntmps130
 go_wp2_with fail
 go_loopw [16] (fun i wr => ∃ j : Nat, j ≤ 3 ∧ i = .int .i64 j ∧ Below w.heap.size w wr) (fun i _ => 5 - (intOf i).toNat)
 case atStart => exact ⟨0, by omega, rfl, Below.refl _ _⟩
 case round =>
  obtain ⟨j, hj, rfl, hb⟩ := hrel
  have HB := hid hb
  clear hb
  have hjc : j = 0 ∨ j = 1 ∨ j = 2 ∨ j = 3 := by omega
  rcases hjc with rfl | rfl | rfl | rfl
  ·have hix := ixFam0 wr
   go_wp2_with fail
   clear hix
   refine (c_has0 k wr).mono ?_
   rintro e w1 ⟨rfl, hq⟩
   have HB1 := hid (HB.out.trans (hq.mono HB.out.size))
   clear hq
   rw [HN0.out]
   go_wp2_with fail
   go_roundw
   case rel => exact ⟨1, by omega, rfl, HB1.out⟩
   case measure => simp [intOf]
  ·have hix := ixFam1 wr
   go_wp2_with fail
   clear hix
   refine (c_has1 k wr).mono ?_
   rintro e w1 ⟨rfl, hq⟩
   have HB1 := hid (HB.out.trans (hq.mono HB.out.size))
   clear hq
   rw [HN1.out]
   go_wp2_with fail
   go_roundw
   case rel => exact ⟨2, by omega, rfl, HB1.out⟩
   case measure => simp [intOf]
  ·have hix := ixFam2 wr
   go_wp2_with fail
   clear hix
   refine (c_has2 k wr).mono ?_
   rintro e w1 ⟨rfl, hq⟩
   have HB1 := hid (HB.out.trans (hq.mono HB.out.size))
   clear hq
   rw [HN2.out]
   go_wp2_with fail
   go_roundw
   case rel => exact ⟨3, by omega, rfl, HB1.out⟩
   case measure => simp [intOf]
  ·have hix := ixFam3 wr
   go_wp2_with fail
   clear hix
   refine (c_has3 k wr).mono ?_
   rintro e w1 ⟨rfl, hq⟩
   have HB1 := hid (HB.out.trans (hq.mono HB.out.size))
   clear hq
   rw [HY.out]
   go_wp2_with fail
   go_ret
   exact ⟨rfl, HB1.out⟩
set_option maxHeartbeats 4000000 in
theorem c_kindFamily4 (k : Int) (w : World) (n0 : fam0 k = false) (n1 : fam1 k = false) (n2 : fam2 k = false) (n3 : fam3 k = false) (y4 : fam4 k = true) : Calls Tryz.prog 130 #[.int .i64 k] w fun e w' => e = .returned (.iface 165 (.agg #[])) ∧ Below w.heap.size w w' := by
 have HN0 := hid n0
 clear n0
 have HN1 := hid n1
 clear n1
 have HN2 := hid n2
 clear n2
 have HN3 := hid n3
 clear n3
 have HY := hid y4
 clear y4
 go_enter Tryz.func130, Tryz.ntmps130
 go_wp2_with fail
 go_loopw [16] (fun i wr => ∃ j : Nat, j ≤ 4 ∧ i = .int .i64 j ∧ Below w.heap.size w wr) (fun i _ => 5 - (intOf i).toNat)
 case atStart => exact ⟨0, by omega, rfl, Below.refl _ _⟩
 case round =>
  obtain ⟨j, hj, rfl, hb⟩ := hrel
  have HB := hid hb
  clear hb
  have hjc : j = 0 ∨ j = 1 ∨ j = 2 ∨ j = 3 ∨ j = 4 := by omega
  rcases hjc with rfl | rfl | rfl | rfl | rfl
  ·have hix := ixFam0 wr
   go_wp2_with fail
   clear hix
   refine (c_has0 k wr).mono ?_
   rintro e w1 ⟨rfl, hq⟩
   have HB1 := hid (HB.out.trans (hq.mono HB.out.size))
   clear hq
   rw [HN0.out]
   go_wp2_with fail
   go_roundw
   case rel => exact ⟨1, by omega, rfl, HB1.out⟩
   case measure => simp [intOf]
  ·have hix := ixFam1 wr
   go_wp2_with fail
   clear hix
   refine (c_has1 k wr).mono ?_
   rintro e w1 ⟨rfl, hq⟩
   have HB1 := hid (HB.out.trans (hq.mono HB.out.size))
   clear hq
   rw [HN1.out]
   go_wp2_with fail
   go_roundw
   case rel => exact ⟨2, by omega, rfl, HB1.out⟩
   case measure => simp [intOf]
  ·have hix := ixFam2 wr
   go_wp2_with fail
   clear hix
   refine (c_has2 k wr).mono ?_
   rintro e w1 ⟨rfl, hq⟩
   have HB1 := hid (HB.out.trans (hq.mono HB.out.size))
   clear hq
   rw [HN2.out]
   go_wp2_with fail
   go_roundw
   case rel => exact ⟨3, by omega, rfl, HB1.out⟩
   case measure => simp [intOf]
  ·have hix := ixFam3 wr
   go_wp2_with fail
   clear hix
   refine (c_has3 k wr).mono ?_
   rintro e w1 ⟨rfl, hq⟩
   have HB1 := hid (HB.out.trans (hq.mono HB.out.size))
   clear hq
   rw [HN3.out]
   go_wp2_with fail
   go_roundw
   case rel => exact ⟨4, by omega, rfl, HB1.out⟩
   case measure => simp [intOf]
  ·have hix := ixFam4 wr
   go_wp2_with fail
   clear hix
   refine (c_has4 k wr).mono ?_
   rintro e w1 ⟨rfl, hq⟩
   have HB1 := hid (HB.out.trans (hq.mono HB.out.size))
   clear hq
   rw [HY.out]
   go_wp2_with fail
   go_ret
   exact ⟨rfl, HB1.out⟩
end Go.Proofs.YtlcgimadbpagfaaGreat
