/-
  The sort of a node: the program, its small functions.
-/
import Derived.Test.YtbkcecilbpngcaaGreatRows
import Derived.Test.YtbkcecilbpngcaaGreatPaA
import Derived.Test.YtbkcecilbpngcaaGreatNodeM
import Derived.Test.YtbkcecilbpngcaaGreatNames
import Derived.Test.YtbkcecilbpngcaaGreatFieldsS
import Derived.Test.YtbkcecilbpngcaaGreatNodeL
import Derived.Test.YtbkcecilbpngcaaGreatResP
import Derived.WalkKit
import Derived.ProofKit
import Derived.OpenShut
import Derived.WalkSpells
import Derived.WalkLawsBesides
import Derived.Outline
import Derived.BigQuiet
import Derived.Handy
import Derived.LoopTactic
import Derived.Deep.Light
import Derived.Deep.RegionWith
import Derived.Deep.RegionHeld3
import Derived.Deep.QuietTactic
import Derived.Lib.Hide
namespace Go.Proofs.YtbkcecilbpngcaaGreat
open Go.ChangeShapes Go.WideShapes Go.ChangeAt Go.RowKit
set_option linter.unusedVariables false

theorem c_wordSort (n : Int) (w : World) :
    Calls Tryz.prog 71 #[.int .i64 n] w fun e w' => e = .returned (.agg #[.int .i64 0, .int .i64 n]) ∧ w' = w.alloc (.cells #[.int .i64 0, .int .i64 n] 64) := by
  go_enter Tryz.func71, Tryz.ntmps71
  go_wp2
  exact bodyPost_ret (v := .agg #[.int .i64 0, .int .i64 n]) (results_cell_row rfl _ _ w.heap.size 64 #[.int .i64 0, .int .i64 n] (0, 0) _ rfl (heap_alloc_new _ _) Tryz.underlying64 rfl (by kernel_rfl)) rfl ⟨rfl, rfl⟩
theorem c_placeOk {a : Option Addr} {len cap : Nat} (hl : len ≤ maxLen) (p : Int) (w : World) :
    Calls Tryz.prog 70 #[.slice a len cap, .int .i64 p] w fun e w' => e = .returned (.bool (decide (0 ≤ p ∧ p < len))) ∧ w = w' := by
  by_cases h : 0 ≤ p
  · go_enter Tryz.func70, Tryz.ntmps70
    go_wp2
    go_ret
    exact ⟨ret_bool (by simp [h]), rfl⟩
  · go_enter Tryz.func70, Tryz.ntmps70
    go_wp2
    go_ret
    exact ⟨ret_bool (by simp; omega), rfl⟩
theorem ncN_cases (k : Int) : ncN k = 0 ∨ ncN k = 1 ∨ ncN k = 2 := by unfold ncN; (repeat' split) <;> omega
theorem c_numbersOk (x : ND) (w : World) :
    Calls Tryz.prog 95 #[.agg x.cells.toArray] w fun e w' => e = .returned (.bool (decide (numOk x))) ∧ Below w.heap.size w w' := by
  have hn := ncN_cases x.kind
  have HN : Hid (numOk x ↔ ((ncN x.kind < 1 → x.n = 0) ∧ (ncN x.kind < 2 → x.m = 0))) := Iff.rfl
  obtain ⟨k, pa, pb, pc, n, m, si, sw, nm⟩ := x
  simp only [ND.cells] at *
  rcases hn with h | h | h
  all_goals
    by_cases hn0 : n = 0
    all_goals
      by_cases hm0 : m = 0
      all_goals
        go_enter Tryz.func95, Tryz.ntmps95
        go_wp2_with (first | (go_at_call 116; refine (c_numberCount _ _).mono ?_; rintro e w' ⟨rfl, rfl⟩))
        go_ret
        refine ⟨ret_bool ?_, by go_grown⟩
        go_light
        have : decide (numOk ⟨k, pa, pb, pc, n, m, si, sw, nm⟩) = decide ((ncN k < 1 → n = 0) ∧ (ncN k < 2 → m = 0)) := dec_iff HN.out
        rw [this]
        simp_all
theorem c_nodeNameOk (x : ND) (hx : x.name.size ≤ maxLen) (w : World) :
    Calls Tryz.prog 96 #[.agg x.cells.toArray] w fun e w' => e = .returned (.bool (nmOk x)) ∧ Below w.heap.size w w' := by
  by_cases hn : namedB x.kind = true
  · have HN := Go.Lib.hid (show nmOk x = nameB x.name by unfold nmOk; rw [if_pos hn])
    obtain ⟨k, pa, pb, pc, n, m, si, sw, nm⟩ := x
    simp only [ND.cells] at *
    go_enter Tryz.func96, Tryz.ntmps96
    go_wp2_with (first | (go_at_call 99; refine (c_kindNamed _ _).mono ?_; rintro e w' ⟨rfl, rfl⟩) | (go_at_call 117; refine (c_nameOk _ hx _).mono ?_; rintro e w' ⟨rfl, rfl⟩))
    go_ret
    exact ⟨ret_bool HN.out.symm, by go_grown⟩
  · have hn' : namedB x.kind = false := by simpa using hn
    have HN := Go.Lib.hid (show nmOk x = x.name.data.toList.isEmpty by unfold nmOk; rw [if_neg hn])
    clear hn
    obtain ⟨k, pa, pb, pc, n, m, si, sw, nm⟩ := x
    simp only [ND.cells] at *
    go_enter Tryz.func96, Tryz.ntmps96
    go_wp2_with (first | (go_at_call 99; refine (c_kindNamed _ _).mono ?_; rintro e w' ⟨rfl, rfl⟩) | (go_at_call 117; refine (c_nameOk _ hx _).mono ?_; rintro e w' ⟨rfl, rfl⟩))
    go_ret
    exact ⟨ret_bool (by rw [HN.out, Go.ByteArray.toList_eq]), by go_grown⟩
end Go.Proofs.YtbkcecilbpngcaaGreat
