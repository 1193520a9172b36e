/-
  BddConst: both sides; the marks of a diagram without nodes.
-/
import Derived.Test.YthdofdglbdfkkaaDoorRows
import Derived.Test.YthdofdglbdfkkaaDoorPaA
import Derived.Test.YthdofdglbdfkkaaDoorG0
import Derived.Test.YthdofdglbdfkkaaDoorBdM
import Derived.Test.YthdofdglbdfkkaaDoorBdI
import Derived.Test.YthdofdglbdfkkaaDoorBdS
import Derived.WalkKit
import Derived.ProofKit
import Derived.OpenShut
import Derived.WalkSpells
import Derived.WalkLawsBesides
import Derived.Outline
import Derived.BigQuiet
import Derived.Handy
import Derived.LoopTactic
import Derived.Deep.Light
import Derived.Deep.RegionWith
import Derived.Deep.RegionHeld3
import Derived.Deep.DeepCutAuto
import Derived.Lib.Hide
import Derived.Maps.OwnRows
import Derived.Deep.Onto
import Derived.OneCell
import Derived.StillTailTactics
import Derived.Deep.AppendLies
import Derived.Deep.RegionLaw
namespace Go.Proofs.YthdofdglbdfkkaaDoor
open Go.ChangeShapes Go.WideShapes Go.ChangeAt Go.RowKit Go.Maps Go.ChangeMaps
set_option linter.unusedVariables false
set_option maxRecDepth 100000


theorem nil_bns (B : Nat) (w : World) : BnsAt B w none 0 0 [] := ⟨rfl, Nat.le_refl _, Nat.zero_le _, by simp, fun _ => rfl, .inl rfl⟩
theorem results_cell_q {P : Program} {fn : Func} {p q : Tmp} {ty : TypeId} (h : fn.results = #[.cell p ty, .tmp q]) (tmps : Array Value) (w : World) (g : Nat) (t : TypeId) (cs : Array Value) (fr : Nat × Nat) (d : TypeDesc)
    {z : Value} (hp : tmps.getD p undef = .pointer (some ⟨g, 0, none⟩)) (hz : tmps.getD q undef = z) (hg : w.heap[g]? = some (.cells cs t fr))
    (hu : P.underlying ty = some d) (hd : (match d with | .struct _ | .array _ _ => true | _ => false) = true) (hi : (P.info? ty).map (·.size) = some cs.size) :
    (results fn tmps).run P w = .ok (.tuple #[.agg cs, z]) w := by
  have hz' : tmps[q]?.getD undef = z := by simpa using hz
  have hp' : tmps[p]?.getD undef = .pointer (some ⟨g, 0, none⟩) := by simpa using hp
  simp [results, h, hp', hz', asAddr, run_loadVar_row w g t ty cs fr d hg hu hd hi]
def cR (n : Int) (b : Bool) : Int × Int × Bool := if varsB n then (n, b.toNat, true) else (0, 0, false)

set_option maxHeartbeats 4000000 in
theorem c_BddConstS (n : Int) (b : Bool) (V R : Int) (k : Bool) (hk : (V, R, k) = cR n b) (w : World) :
    Calls Tryd.prog 76 #[.int .i64 n, .bool b] w fun e w' => e = .returned (.tuple #[.agg #[.int .i64 V, .slice none 0 0, .int .i64 R], .bool k]) ∧ Below w.heap.size w w' := by
  go_enter Tryd.func76, Tryd.ntmps76
  go_upto_region 1 with fail
  refine code_gen (R := fun wb => wb.heap[w.heap.size]? = some (.cells #[.int .i64 0, .slice none 0 0, .int .i64 0] 25 (0, 0)) ∧ Below w.heap.size w wb) ⟨by first | exact (MapKept.heap_alloc _ _).1 | exact heap_alloc_new _ _, by go_grown⟩ ?_
  rintro w0 ⟨k0, b0⟩
  have HK0 := Go.Lib.hid k0
  have HB0 := Go.Lib.hid b0
  have z0 := cell_of_block (i := 0) k0 (v := .int .i64 0) rfl
  have z1 := cell_of_block (i := 1) k0 (v := .slice none 0 0) rfl
  have z2 := cell_of_block (i := 2) k0 (v := .int .i64 0) rfl
  have v0 := free_of_block (i := 0) k0
  have v1 := free_of_block (i := 1) k0
  have v2 := free_of_block (i := 2) k0
  clear k0 b0
  cases hv : varsB n with
  | false =>
    have HC := Go.Lib.hid (c_l7Vars n w0)
    rw [hv] at HC
    unfold cR at hk
    rw [hv] at hk
    simp only [Bool.false_eq_true, if_false, Prod.mk.injEq] at hk
    obtain ⟨rfl, rfl, rfl⟩ := hk
    clear hv
    go_wp2_with fail
    refine HC.out.mono ?_
    rintro e w' ⟨rfl, hw⟩
    cases hw
    go_wp2_with fail
    refine bodyPost_ret (v := .tuple #[.agg #[.int .i64 0, .slice none 0 0, .int .i64 0], .bool false]) (results_cell_q (p := 4) (q := 5) rfl _ _ w.heap.size 25 _ (0, 0) _ rfl rfl (heap_setCell_same _ _ 2 _ _ _ (heap_setCell_same _ _ 1 _ _ _ (heap_setCell_same _ _ 0 _ _ _ HK0.out))) Tryd.underlying25 rfl (by kernel_rfl)) rfl ⟨rfl, ?_⟩
    exact ((HB0.out.setCell (p := ⟨w.heap.size, 0, none⟩) (Nat.le_refl _) _).setCell (p := ⟨w.heap.size, 1, none⟩) (Nat.le_refl _) _).setCell (p := ⟨w.heap.size, 2, none⟩) (Nat.le_refl _) _
  | true =>
    have HC := Go.Lib.hid (c_l7Vars n w0)
    rw [hv] at HC
    unfold cR at hk
    rw [hv] at hk
    simp only [if_true, Prod.mk.injEq] at hk
    obtain ⟨rfl, rfl, rfl⟩ := hk
    clear hv
    go_wp2_with fail
    refine HC.out.mono ?_
    rintro e w' ⟨rfl, hw⟩
    cases hw
    go_wp2_with fail
    refine (c_l1Yes b w0).mono ?_
    rintro e w' ⟨rfl, hw⟩
    cases hw
    go_wp2_with fail
    refine bodyPost_ret (v := .tuple #[.agg #[.int .i64 V, .slice none 0 0, .int .i64 b.toNat], .bool true]) (results_cell_q (p := 4) (q := 5) rfl _ _ w.heap.size 25 _ (0, 0) _ rfl rfl (heap_setCell_same _ _ 2 _ _ _ (heap_setCell_same _ _ 1 _ _ _ (heap_setCell_same _ _ 0 _ _ _ HK0.out))) Tryd.underlying25 rfl (by kernel_rfl)) rfl ⟨rfl, ?_⟩
    exact ((HB0.out.setCell (p := ⟨w.heap.size, 0, none⟩) (Nat.le_refl _) _).setCell (p := ⟨w.heap.size, 1, none⟩) (Nat.le_refl _) _).setCell (p := ⟨w.heap.size, 2, none⟩) (Nat.le_refl _) _

set_option maxHeartbeats 4000000 in
theorem c_BddConstI (n : Int) (b : Bool) (V R : Int) (k : Bool) (hk : (V, R, k) = cR n b) (w : World) :
    Calls Tryd.prog 13 #[.int .i64 n, .bool b] w fun e w' => e = .returned (.tuple #[.agg #[.int .i64 V, .slice none 0 0, .int .i64 R], .bool k]) ∧ Below w.heap.size w w' := by
  go_enter Tryd.func13, Tryd.ntmps13
  go_upto_region 1 with fail
  refine code_gen (R := fun wb => wb.heap[w.heap.size]? = some (.cells #[.int .i64 0, .slice none 0 0, .int .i64 0] 25 (0, 0)) ∧ Below w.heap.size w wb) ⟨by first | exact (MapKept.heap_alloc _ _).1 | exact heap_alloc_new _ _, by go_grown⟩ ?_
  rintro w0 ⟨k0, b0⟩
  have HK0 := Go.Lib.hid k0
  have HB0 := Go.Lib.hid b0
  have z0 := cell_of_block (i := 0) k0 (v := .int .i64 0) rfl
  have z1 := cell_of_block (i := 1) k0 (v := .slice none 0 0) rfl
  have z2 := cell_of_block (i := 2) k0 (v := .int .i64 0) rfl
  have v0 := free_of_block (i := 0) k0
  have v1 := free_of_block (i := 1) k0
  have v2 := free_of_block (i := 2) k0
  clear k0 b0
  cases hv : varsB n with
  | false =>
    have HC := Go.Lib.hid (c_bddVarsOk n w0)
    rw [hv] at HC
    unfold cR at hk
    rw [hv] at hk
    simp only [Bool.false_eq_true, if_false, Prod.mk.injEq] at hk
    obtain ⟨rfl, rfl, rfl⟩ := hk
    clear hv
    go_wp2_with fail
    refine HC.out.mono ?_
    rintro e w' ⟨rfl, hw⟩
    cases hw
    go_wp2_with fail
    refine bodyPost_ret (v := .tuple #[.agg #[.int .i64 0, .slice none 0 0, .int .i64 0], .bool false]) (results_cell_q (p := 4) (q := 5) rfl _ _ w.heap.size 25 _ (0, 0) _ rfl rfl (heap_setCell_same _ _ 2 _ _ _ (heap_setCell_same _ _ 1 _ _ _ (heap_setCell_same _ _ 0 _ _ _ HK0.out))) Tryd.underlying25 rfl (by kernel_rfl)) rfl ⟨rfl, ?_⟩
    exact ((HB0.out.setCell (p := ⟨w.heap.size, 0, none⟩) (Nat.le_refl _) _).setCell (p := ⟨w.heap.size, 1, none⟩) (Nat.le_refl _) _).setCell (p := ⟨w.heap.size, 2, none⟩) (Nat.le_refl _) _
  | true =>
    have HC := Go.Lib.hid (c_bddVarsOk n w0)
    rw [hv] at HC
    unfold cR at hk
    rw [hv] at hk
    simp only [if_true, Prod.mk.injEq] at hk
    obtain ⟨rfl, rfl, rfl⟩ := hk
    clear hv
    go_wp2_with fail
    refine HC.out.mono ?_
    rintro e w' ⟨rfl, hw⟩
    cases hw
    go_wp2_with fail
    refine (c_wordFlag b w0).mono ?_
    rintro e w' ⟨rfl, hw⟩
    cases hw
    go_wp2_with fail
    refine bodyPost_ret (v := .tuple #[.agg #[.int .i64 V, .slice none 0 0, .int .i64 b.toNat], .bool true]) (results_cell_q (p := 4) (q := 5) rfl _ _ w.heap.size 25 _ (0, 0) _ rfl rfl (heap_setCell_same _ _ 2 _ _ _ (heap_setCell_same _ _ 1 _ _ _ (heap_setCell_same _ _ 0 _ _ _ HK0.out))) Tryd.underlying25 rfl (by kernel_rfl)) rfl ⟨rfl, ?_⟩
    exact ((HB0.out.setCell (p := ⟨w.heap.size, 0, none⟩) (Nat.le_refl _) _).setCell (p := ⟨w.heap.size, 1, none⟩) (Nat.le_refl _) _).setCell (p := ⟨w.heap.size, 2, none⟩) (Nat.le_refl _) _

end Go.Proofs.YthdofdglbdfkkaaDoor
