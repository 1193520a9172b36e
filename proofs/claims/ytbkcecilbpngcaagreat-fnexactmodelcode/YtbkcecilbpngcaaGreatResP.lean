
/-
  What is said of the sort of a node by those of its parts.
-/
import Derived.Test.YtbkcecilbpngcaaGreatRows
import Derived.Test.YtbkcecilbpngcaaGreatG0
import Derived.Test.YtbkcecilbpngcaaGreatPaA
import Derived.Test.YtbkcecilbpngcaaGreatNodeM
import Derived.Test.YtbkcecilbpngcaaGreatTwo
import Derived.WalkKit
import Derived.ProofKit
import Derived.OpenShut
import Derived.WalkSpells
import Derived.WalkLawsBesides
import Derived.Outline
import Derived.BigQuiet
import Derived.Handy
import Derived.LoopTactic
import Derived.Deep.Light
import Derived.Deep.RegionWith
import Derived.Deep.RegionHeld3
namespace Go.Proofs.YtbkcecilbpngcaaGreat
open Go.ChangeShapes Go.WideShapes Go.ChangeAt Go.RowKit
set_option linter.unusedVariables false

theorem c_l2Word (n : Int) (w : World) :
    Calls Tryz.prog 60 #[.int .i64 n] w fun e w' => e = .returned (.agg #[.int .i64 0, .int .i64 n]) ∧ w' = w.alloc (.cells #[.int .i64 0, .int .i64 n] 64) := by
  go_enter Tryz.func60, Tryz.ntmps60
  go_wp2
  exact bodyPost_ret (v := .agg #[.int .i64 0, .int .i64 n]) (results_cell_row rfl _ _ w.heap.size 64 #[.int .i64 0, .int .i64 n] (0, 0) _ rfl (heap_alloc_new _ _) Tryz.underlying64 rfl (by kernel_rfl)) rfl ⟨rfl, rfl⟩

/-- What the sort of a node is said to be. -/
def ResP (x : ND) (a b c : Int × Int) (w : World) (e : Ending) (w' : World) : Prop :=
  ∃ i n, e = .returned (.tuple #[.agg #[.int .i64 i, .int .i64 n], .bool (decide (kOk x a b c))]) ∧ (kOk x a b c → (i, n) = kSort x a b c) ∧ Below w.heap.size w w'
/-- Sorts in a row of memory. -/
def SortsAt (w : World) (g : Nat) (l : List (Int × Int)) : Prop :=
  g < w.heap.size ∧ ∀ t (h : t < l.length), w.cell? ⟨g, 2 * t, none⟩ = some (.int .i64 (l[t]).1) ∧ w.cell? ⟨g, 2 * t + 1, none⟩ = some (.int .i64 (l[t]).2)

theorem res_no {x : ND} {a b c : Int × Int} {w w' : World} {i n : Int} (h : ¬ kOk x a b c) (hb : Below w.heap.size w w') : ResP x a b c w (.returned (.tuple #[.agg #[.int .i64 i, .int .i64 n], .bool false])) w' :=
  ⟨i, n, by rw [decide_eq_false h], fun k => absurd k h, hb⟩
theorem res_yes {x : ND} {a b c : Int × Int} {w w' : World} {i n : Int} (h : kOk x a b c) (he : (i, n) = kSort x a b c) (hb : Below w.heap.size w w') : ResP x a b c w (.returned (.tuple #[.agg #[.int .i64 i, .int .i64 n], .bool true])) w' :=
  ⟨i, n, by rw [decide_eq_true h], fun _ => he, hb⟩
/-- A kind whose parts are words. -/
def WK (k : Int) : Prop := namedB k = false ∧ k ≠ 34 ∧ k ≠ 33 ∧ k ≠ 21 ∧ k ≠ 37 ∧ k ≠ 38
theorem kOk_words {x : ND} (h : WK x.kind) (a b c : Int × Int) : kOk x a b c ↔ (kWidth x a.2 b.2).2 = true ∧ a.1 = 0 ∧ b.1 = 0 := by
  obtain ⟨h0, h1, h2, h3, h4, h5⟩ := h
  unfold kOk
  rw [if_neg (by rw [h0]; simp), if_neg h1, if_neg h2, if_neg h3, if_neg h4, if_neg h5]
theorem kSort_words {x : ND} (h : WK x.kind) (a b c : Int × Int) : kSort x a b c = (0, (kWidth x a.2 b.2).1) := by
  obtain ⟨h0, h1, h2, h3, h4, h5⟩ := h
  unfold kSort
  rw [if_neg (by rw [h0]; simp [h1]), if_neg h2, if_neg h3, if_neg h4, if_neg h5]
theorem res_w {x : ND} {a b c : Int × Int} {w w' : World} {n : Int} {ok : Bool} (h : WK x.kind) (ha : a.1 = 0) (hb : b.1 = 0) (hn : ok = true → (kWidth x a.2 b.2).1 = n) (hok : (kWidth x a.2 b.2).2 = ok) (hB : Below w.heap.size w w') :
    ResP x a b c w (.returned (.tuple #[.agg #[.int .i64 0, .int .i64 n], .bool ok])) w' := by
  refine ⟨0, n, ?_, ?_, hB⟩
  · have : decide (kOk x a b c) = ok := by
      rw [← hok]
      by_cases hw : (kWidth x a.2 b.2).2 = true
      · rw [hw]; exact decide_eq_true ((kOk_words h a b c).mpr ⟨hw, ha, hb⟩)
      · have : (kWidth x a.2 b.2).2 = false := by simpa using hw
        rw [this]; exact decide_eq_false fun k => hw ((kOk_words h a b c).mp k).1
    rw [this]
  · intro k
    rw [kSort_words h, hn (hok ▸ ((kOk_words h a b c).mp k).1)]
theorem res_arr {x : ND} {a b c : Int × Int} {w w' : World} {i n : Int} (h : WK x.kind) (ha : 0 < a.1 ∨ 0 < b.1) (hB : Below w.heap.size w w') :
    ResP x a b c w (.returned (.tuple #[.agg #[.int .i64 i, .int .i64 n], .bool false])) w' :=
  res_no (fun k => by have := (kOk_words h a b c).mp k; omega) hB
end Go.Proofs.YtbkcecilbpngcaaGreat
