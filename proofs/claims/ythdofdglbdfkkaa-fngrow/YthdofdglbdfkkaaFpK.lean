/-
  What is drawn for a set and a number of bits.
-/
import Derived.Test.YthdofdglbdfkkaaRows
import Derived.Test.YthdofdglbdfkkaaPaA
import Derived.Test.YthdofdglbdfkkaaG0
import Derived.Test.YthdofdglbdfkkaaRd
import Derived.Test.YthdofdglbdfkkaaBdN
import Derived.Test.YthdofdglbdfkkaaFpD
import Derived.Test.YthdofdglbdfkkaaFpG
import Derived.Test.YthdofdglbdfkkaaFpH
import Derived.WalkKit
import Derived.ProofKit
import Derived.OpenShut
import Derived.WalkSpells
import Derived.WalkLawsBesides
import Derived.Outline
import Derived.BigQuiet
import Derived.Handy
import Derived.LoopTactic
import Derived.Deep.Light
import Derived.Deep.RegionWith
import Derived.Deep.RegionHeld3
import Derived.Deep.DeepCutAuto
import Derived.Lib.Hide
import Derived.Maps.OwnRows
import Derived.Deep.Onto
import Derived.OneCell
import Derived.StillTailTactics
import Derived.Deep.AppendLies
import Derived.Deep.RegionLaw
namespace Go.Proofs.Ythdofdglbdfkkaa
open Go.ChangeShapes Go.WideShapes Go.ChangeAt Go.RowKit Go.Maps Go.ChangeMaps
set_option linter.unusedVariables false
set_option maxRecDepth 100000

/-- What is drawn: a diagram that can be read, and a number. -/
def DrGrowQ (w : World) (e : Ending) (w' : World) : Prop :=
  ∃ V xa xl xc Rt i, e = .returned (.tuple #[.agg #[.int .i64 V, .slice xa xl xc, .int .i64 Rt], .int .i64 i]) ∧ (∃ ms, BnsAt w'.heap.size w' xa xl xc ms) ∧ xl ≤ 601 ∧ Below w.heap.size w w'
set_option maxHeartbeats 8000000 in
theorem c_DrawBddGrow {B : Nat} {a : Option Addr} {len cap : Nat} (w : World) (h : BytesAt B w a len cap) (hB : B ≤ w.heap.size) :
    Calls Try.prog 4 #[.slice a len cap] w (DrGrowQ w) := by
  have H := Go.Lib.hid (h.mono hB)
  clear h hB
  go_enter Try.func4, Try.ntmps4
  go_upto_region 1 with fail
  refine code_gen (R := fun wb => wb.heap[w.heap.size]? = some (.cells #[.int .i64 0, .slice none 0 0, .int .i64 0] 25 (0, 0)) ∧ Below w.heap.size w wb ∧ w.heap.size < wb.heap.size) ⟨(MapKept.heap_alloc _ _).1, by go_grown, by show _ < (w.heap.push _).size; simp⟩ ?_
  rintro w0 ⟨k0, b0, s0⟩
  have K := Go.Lib.hid k0
  have B0 := Go.Lib.hid b0
  clear k0 b0
  go_wp2_with fail
  refine (c_l17Open (B := w0.heap.size) w0 ((H.out.below B0.out).mono (Nat.le_of_lt s0)) (Nat.le_refl _)).mono ?_
  rintro e w1 ⟨rfl, r1, b1⟩
  have RD := Go.Lib.hid r1
  replace K := Go.Lib.hid ((b1.block _ (blk_lt K.out)).trans K.out)
  have HB := Go.Lib.hid (B0.out.trans (b1.mono (Nat.le_of_lt s0)))
  clear r1 b1 B0
  obtain ⟨R, hR⟩ : ∃ k, w0.heap.size = k := ⟨_, rfl⟩
  rw [hR] at RD s0 ⊢
  clear hR
  go_wp2_with fail
  refine (c_vars w1 RD.out (by omega)).mono ?_
  rintro e w2 ⟨n, rfl, hn1, hn2, hr, ho⟩
  replace RD := Go.Lib.hid hr
  replace K := Go.Lib.hid (ho.blk K.out (by omega))
  replace HB := Go.Lib.hid (HB.out.trans (ho.below (by omega) HB.out.size))
  clear hr ho
  go_wp2_with fail
  refine (c_rdDiagram n w2 RD.out (by omega) hn1 hn2).mono ?_
  rintro e w3 ⟨V, xa, xl, xc, Rt, rfl, hnv, hxl, -, hr, ho⟩
  have HRL := Go.Lib.hid RD.out.lt
  have HWL := Go.Lib.hid (blk_lt K.out)
  replace RD := Go.Lib.hid hr
  replace K := Go.Lib.hid (ho.blk K.out (by omega))
  replace HB := Go.Lib.hid (HB.out.trans (ho.below (by omega) HB.out.size))
  have NV := Go.Lib.hid hnv
  clear hr ho hnv
  go_wp2_with fail
  refine (k_pick _ _ RD.out (by omega)).mono ?_
  rintro e w4 ⟨i, rfl, hi, hr, ho⟩
  replace RD := Go.Lib.hid hr
  replace K := Go.Lib.hid (ho.blk K.out (by omega))
  replace HB := Go.Lib.hid (HB.out.trans (ho.below (by omega) HB.out.size))
  replace NV := Go.Lib.hid (NV.out.only ho HRL.out)
  have hi := hi (by omega)
  clear hr ho
  have hw1 : wrap64 (n + i) = n + i := IntWalk.wrap64_in _ (by omega)
  have hw2 : wrap64 (n + i - 1) = n + i - 1 := IntWalk.wrap64_in _ (by omega)
  have z0 := cell_of_block (i := 0) K.out (v := .int .i64 0) rfl
  have fz0 := free_of_block (i := 0) K.out
  have z1 := cell_of_block (i := 1) K.out (v := .slice none 0 0) rfl
  have fz1 := free_of_block (i := 1) K.out
  have z2 := cell_of_block (i := 2) K.out (v := .int .i64 0) rfl
  have fz2 := free_of_block (i := 2) K.out
  go_wp2_with fail
  refine bodyPost_ret (v := .tuple #[.agg #[.int .i64 V, .slice xa xl xc, .int .i64 Rt], .int .i64 (n + i - 1)]) (results_cell_q (p := 2) (q := 3) rfl _ _ w.heap.size 25 _ (0, 0) _ rfl rfl (heap_setCell_same _ _ 2 _ _ _ (heap_setCell_same _ _ 1 _ _ _ (heap_setCell_same _ _ 0 _ _ _ K.out))) Try.underlying25 rfl (by kernel_rfl)) rfl ⟨V, xa, xl, xc, Rt, _, rfl, ?_, hxl, (((HB.out).setCell (p := ⟨w.heap.size, 0, none⟩) (Nat.le_refl _) _).setCell (p := ⟨w.heap.size, 1, none⟩) (Nat.le_refl _) _).setCell (p := ⟨w.heap.size, 2, none⟩) (Nat.le_refl _) _⟩
  exact (NV.out.same (w' := ((w4.setCell ⟨w.heap.size, 0, none⟩ (.int .i64 V)).setCell ⟨w.heap.size, 1, none⟩ (.slice xa xl xc)).setCell ⟨w.heap.size, 2, none⟩ (.int .i64 Rt)) (fun g hg _ _ => by have h1 := HRL.out; have h2 := HWL.out; rw [heap_setCell_other _ _ _ _ (by show g ≠ w.heap.size; omega), heap_setCell_other _ _ _ _ (by show g ≠ w.heap.size; omega), heap_setCell_other _ _ _ _ (by show g ≠ w.heap.size; omega)]) (by simp [World.setCell])).bns
end Go.Proofs.Ythdofdglbdfkkaa
