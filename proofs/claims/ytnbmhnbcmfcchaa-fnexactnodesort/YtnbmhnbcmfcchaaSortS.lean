/-
  What the model says of sorts, and the laws' copies of them.
-/
import Derived.Test.YtnbmhnbcmfcchaaRows
import Derived.Test.YtnbmhnbcmfcchaaMath
import Derived.Test.YtnbmhnbcmfcchaaBase
import Derived.WalkKit
import Derived.ProofKit
import Derived.OpenShut
import Derived.WalkSpells
import Derived.WalkLawsBesides
import Derived.Outline
import Derived.BigQuiet
import Derived.Laws.Rows
import Derived.RegionTactic
import Derived.Deep.RegionWith
namespace Go.Proofs.Ytnbmhnbcmfcchaa
open Go.ChangeShapes Go.WideShapes Go.ChangeAt Go.RowKit
set_option linter.unusedVariables false

/-- A sort. -/
def SOK (i n : Int) : Prop := 0 ≤ i ∧ i ≤ 2 ∧ 1 ≤ n ∧ n ≤ 16
instance (i n : Int) : Decidable (SOK i n) := by unfold SOK; infer_instance
def cellsN (i n : Int) : Int := if SOK i n then 2 ^ i.toNat else 0
def bitsN (i n : Int) : Int := cellsN i n * n
theorem cellsN_bound (i n : Int) : 0 ≤ cellsN i n ∧ cellsN i n ≤ 4 := by
  unfold cellsN; split
  · rename_i h
    have := p2_pos i.toNat
    have := p2_mono (i := i.toNat) (j := 2) (by have := h.1; have := h.2.1; omega)
    have e : (2 : Int) ^ 2 = 4 := by decide
    omega
  · omega

theorem alloc_ltS (w : World) (o : Obj) : w.heap.size < (w.alloc o).heap.size := by show w.heap.size < (w.heap.push _).size; simp
theorem below_boxed {w w1 : World} {o : Obj} (h : Below (w.alloc o).drew.heap.size (w.alloc o).drew w1) : Below w.heap.size w w1 :=
  ((Below.refl _ _).alloc (Nat.le_refl _) _).trans ⟨h.os, h.tape, h.output, h.size, fun k hk => h.block k (Nat.lt_trans hk (alloc_ltS _ _))⟩
theorem heap_alloc2_at (w : World) (A B C : Obj) : (((w.alloc A).alloc B).alloc C).heap[w.heap.size + 1]? = some B := by
  have h : w.heap.size + 1 < ((w.alloc A).alloc B).heap.size := by show w.heap.size + 1 < ((w.heap.push A).push B).size; simp
  exact (heap_alloc_old ((w.alloc A).alloc B) C h).trans (heap_alloc2_new w A B)

theorem c_toSort (i n : Int) (w : World) :
    Calls Try.prog 8 #[.agg #[.int .i64 i, .int .i64 n]] w fun e w' => e = .returned (.agg #[.int .i64 i, .int .i64 n]) ∧ Below w.heap.size w w' := by
  go_enter Try.func8, Try.ntmps8
  go_wp2
  refine bodyPost_ret (v := .agg #[.int .i64 i, .int .i64 n]) (results_cell_row rfl _ _ (w.heap.size + 1) 25 #[.int .i64 i, .int .i64 n] (0, 0) _ rfl ?_ Try.underlying25 rfl (by kernel_rfl)) rfl ⟨rfl, ?_⟩
  · exact heap_alloc2_at _ _ _ _
  · exact (((Below.refl _ _).alloc (Nat.le_refl _) _).alloc (by show w.heap.size ≤ (w.heap.push _).size; simp) _).alloc (by show w.heap.size ≤ ((w.heap.push _).push _).size; simp; omega) _

theorem c_SortOkS (i n : Int) (w : World) :
    Calls Try.prog 7 #[.agg #[.int .i64 i, .int .i64 n]] w fun e w' => e = .returned (.bool (decide (SOK i n))) ∧ Below w.heap.size w w' := by
  by_cases h1 : 0 ≤ i ∧ i ≤ 2
  · have hd : (decide (0 ≤ i) && decide (i ≤ 2)) = true := by simp; exact h1
    go_enter Try.func7, Try.ntmps7
    go_wp2_with (first | (go_at_call 22; refine (c_l1In _ _ _ _).mono ?_; rintro e w' ⟨rfl, rfl⟩) | (go_at_call 23; refine (c_l1Width _ _).mono ?_; rintro e w' ⟨rfl, rfl⟩))
    go_ret
    exact ⟨ret_bool (by rw [dec_and]; apply dec_iff; unfold SOK; omega), (Below.refl _ _).alloc (Nat.le_refl _) _⟩
  · have hd : (decide (0 ≤ i) && decide (i ≤ 2)) = false := by simp; omega
    have hn : ¬ SOK i n := fun k => h1 ⟨k.1, k.2.1⟩
    go_enter Try.func7, Try.ntmps7
    go_wp2_with (first | (go_at_call 22; refine (c_l1In _ _ _ _).mono ?_; rintro e w' ⟨rfl, rfl⟩) | (go_at_call 23; refine (c_l1Width _ _).mono ?_; rintro e w' ⟨rfl, rfl⟩))
    go_ret
    exact ⟨ret_bool (decide_eq_false hn).symm, (Below.refl _ _).alloc (Nat.le_refl _) _⟩

theorem c_SortCellsS (i n : Int) (w : World) :
    Calls Try.prog 10 #[.agg #[.int .i64 i, .int .i64 n]] w fun e w' => e = .returned (.int .i64 (cellsN i n)) ∧ Below w.heap.size w w' := by
  by_cases h : SOK i n
  · have hd : decide (SOK i n) = true := decide_eq_true h
    have h1 := h.1; have h2 := h.2.1
    have hc : Hid (cellsN i n = _) := if_pos h
    have hw := wrap_p2 (n := i) (by omega)
    clear h
    go_enter Try.func10, Try.ntmps10
    go_wp2_with (first | (go_at_call 7; refine (c_SortOkS _ _ _).mono ?_; rintro e w1 ⟨rfl, hB⟩; have c0 := hB.cell (p := ⟨w.heap.size, 0, none⟩) (alloc_ltS _ _)))
    go_ret
    exact ⟨ret_int (hw.trans hc.out.symm), ((Below.refl _ _).alloc (Nat.le_refl _) _).trans (hB.mono (Nat.le_of_lt (alloc_ltS _ _)))⟩
  · have hd : decide (SOK i n) = false := decide_eq_false h
    have hc : Hid (cellsN i n = _) := if_neg h
    clear h
    go_enter Try.func10, Try.ntmps10
    go_wp2_with (first | (go_at_call 7; refine (c_SortOkS _ _ _).mono ?_; rintro e w1 ⟨rfl, hB⟩))
    go_ret
    exact ⟨ret_int hc.out.symm, ((Below.refl _ _).alloc (Nat.le_refl _) _).trans (hB.mono (Nat.le_of_lt (alloc_ltS _ _)))⟩

theorem c_SortBitsS (i n : Int) (hn : (Lit.int .i64 n).wf = true) (w : World) :
    Calls Try.prog 12 #[.agg #[.int .i64 i, .int .i64 n]] w fun e w' => e = .returned (.int .i64 (bitsN i n)) ∧ Below w.heap.size w w' := by
  have hw : wrap64 (cellsN i n * n) = bitsN i n := by
    show wrap64 (cellsN i n * n) = cellsN i n * n
    by_cases h : SOK i n
    · have := cellsN_bound i n
      have h3 := h.2.2.1; have h4 := h.2.2.2
      have : 0 ≤ cellsN i n * n := Int.mul_nonneg (by omega) (by omega)
      have : cellsN i n * n ≤ 4 * 16 := Int.mul_le_mul (by omega) (by omega) (by omega) (by omega)
      exact IntWalk.wrap64_in _ (by omega)
    · have : cellsN i n = 0 := if_neg h
      rw [this, Int.zero_mul]; exact IntWalk.wrap64_in 0 (by omega)
  go_enter Try.func12, Try.ntmps12
  go_wp2
  go_region_with (first | (go_at_call 10; refine (c_SortCellsS _ _ _).mono ?_; rintro e w1 ⟨rfl, hB⟩; have c1 := hB.cell (p := ⟨w.heap.size, 1, none⟩) (alloc_ltS _ _); have hB' : Below w.heap.size w w1 := below_boxed hB))
  all_goals
    go_wp2
    refine bodyPost_ret (results_tmp rfl _ _ _) rfl ?_
    simp [Act.put]
    exact ⟨by rw [IntKind.wrap_i64]; unfold wrap64 at hw; exact hw, hB'⟩
end Go.Proofs.Ytnbmhnbcmfcchaa
