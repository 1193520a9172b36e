/-
  What the program says of sorts; small laws of worlds that have grown.
-/
import Derived.Test.YtnbmhnbcmfcchaaRows
import Derived.Test.YtnbmhnbcmfcchaaMath
import Derived.Test.YtnbmhnbcmfcchaaBase
import Derived.Test.YtnbmhnbcmfcchaaSortS
import Derived.WalkKit
import Derived.ProofKit
import Derived.OpenShut
import Derived.WalkSpells
import Derived.WalkLawsBesides
import Derived.Outline
import Derived.BigQuiet
import Derived.Handy
import Derived.Laws.Rows
import Derived.RegionTactic
import Derived.Deep.RegionWith
namespace Go.Proofs.Ytnbmhnbcmfcchaa
open Go.ChangeShapes Go.WideShapes Go.ChangeAt Go.RowKit
set_option linter.unusedVariables false

/-- What lay there reads as before. -/
theorem bcell {W w1 : World} (hb : Below W.heap.size W w1) : (∀ b o, b < W.heap.size → w1.cell? ⟨b, o, none⟩ = W.cell? ⟨b, o, none⟩) ∧ (∀ b o, b < W.heap.size → w1.frozen? ⟨b, o, none⟩ = W.frozen? ⟨b, o, none⟩) :=
  ⟨fun b o h => hb.cell (p := ⟨b, o, none⟩) h, fun b o h => hb.frozen (p := ⟨b, o, none⟩) h⟩
theorem bstep {B : Nat} {w w1 w2 : World} (h : Below B w w1) (hB : B ≤ w.heap.size) (k : Below w1.heap.size w1 w2) : Below B w w2 :=
  h.trans (k.mono (Nat.le_trans hB h.size))

theorem c_SortOkI (i n : Int) (w : World) :
    Calls Try.prog 9 #[.agg #[.int .i64 i, .int .i64 n]] w fun e w' => e = .returned (.bool (decide (SOK i n))) ∧ Below w.heap.size w w' := by
  by_cases h1 : 0 ≤ i
  · by_cases h2 : i ≤ 2
    · go_enter Try.func9, Try.ntmps9
      go_wp2_with (first | (go_at_call 24; refine (c_widthOk _ _).mono ?_; rintro e w' ⟨rfl, rfl⟩))
      go_ret
      exact ⟨ret_bool (by rw [dec_and]; apply dec_iff; unfold SOK; omega), (Below.refl _ _).alloc (Nat.le_refl _) _⟩
    · have hn : ¬ SOK i n := fun k => h2 k.2.1
      go_enter Try.func9, Try.ntmps9
      go_wp2_with (first | (go_at_call 24; refine (c_widthOk _ _).mono ?_; rintro e w' ⟨rfl, rfl⟩))
      go_ret
      exact ⟨by first | rfl | exact ret_bool (decide_eq_false hn).symm, (Below.refl _ _).alloc (Nat.le_refl _) _⟩
  · have hn : ¬ SOK i n := fun k => h1 k.1
    go_enter Try.func9, Try.ntmps9
    go_wp2_with (first | (go_at_call 24; refine (c_widthOk _ _).mono ?_; rintro e w' ⟨rfl, rfl⟩))
    go_ret
    exact ⟨by first | rfl | exact ret_bool (decide_eq_false hn).symm, (Below.refl _ _).alloc (Nat.le_refl _) _⟩

theorem c_SortCellsI (i n : Int) (w : World) :
    Calls Try.prog 11 #[.agg #[.int .i64 i, .int .i64 n]] w fun e w' => e = .returned (.int .i64 (cellsN i n)) ∧ Below w.heap.size w w' := by
  by_cases h : SOK i n
  · have hd : decide (SOK i n) = true := decide_eq_true h
    have h1 := h.1; have h2 := h.2.1
    have hc : Hid (cellsN i n = _) := if_pos h
    have hw := wrap_p2 (n := i) (by omega)
    clear h
    go_enter Try.func11, Try.ntmps11
    go_wp2_with (first | (go_at_call 9; refine (c_SortOkI _ _ _).mono ?_; rintro e w1 ⟨rfl, hB⟩; have c0 := hB.cell (p := ⟨w.heap.size, 0, none⟩) (alloc_ltS _ _)))
    go_ret
    exact ⟨ret_int (hw.trans hc.out.symm), ((Below.refl _ _).alloc (Nat.le_refl _) _).trans (hB.mono (Nat.le_of_lt (alloc_ltS _ _)))⟩
  · have hd : decide (SOK i n) = false := decide_eq_false h
    have hc : Hid (cellsN i n = _) := if_neg h
    clear h
    go_enter Try.func11, Try.ntmps11
    go_wp2_with (first | (go_at_call 9; refine (c_SortOkI _ _ _).mono ?_; rintro e w1 ⟨rfl, hB⟩))
    go_ret
    exact ⟨ret_int hc.out.symm, ((Below.refl _ _).alloc (Nat.le_refl _) _).trans (hB.mono (Nat.le_of_lt (alloc_ltS _ _)))⟩

theorem c_SortBitsI (i n : Int) (w : World) :
    Calls Try.prog 13 #[.agg #[.int .i64 i, .int .i64 n]] w fun e w' => e = .returned (.int .i64 (bitsN i n)) ∧ Below w.heap.size w w' := by
  have hw : wrap64 (cellsN i n * n) = bitsN i n := by
    show wrap64 (cellsN i n * n) = cellsN i n * n
    by_cases h : SOK i n
    · have := cellsN_bound i n
      have h3 := h.2.2.1; have h4 := h.2.2.2
      have : 0 ≤ cellsN i n * n := Int.mul_nonneg (by omega) (by omega)
      have : cellsN i n * n ≤ 4 * 16 := Int.mul_le_mul (by omega) (by omega) (by omega) (by omega)
      exact IntWalk.wrap64_in _ (by omega)
    · have : cellsN i n = 0 := if_neg h
      rw [this, Int.zero_mul]; exact IntWalk.wrap64_in 0 (by omega)
  go_enter Try.func13, Try.ntmps13
  go_wp2
  go_region_with (first | (go_at_call 11; refine (c_SortCellsI _ _ _).mono ?_; rintro e w1 ⟨rfl, hB⟩; have c1 := hB.cell (p := ⟨w.heap.size, 1, none⟩) (alloc_ltS _ _); have hB' : Below w.heap.size w w1 := below_boxed hB))
  all_goals
    go_wp2
    refine bodyPost_ret (results_tmp rfl _ _ _) rfl ?_
    simp [Act.put]
    exact ⟨by rw [IntKind.wrap_i64]; unfold wrap64 at hw; exact hw, hB'⟩
end Go.Proofs.Ytnbmhnbcmfcchaa
