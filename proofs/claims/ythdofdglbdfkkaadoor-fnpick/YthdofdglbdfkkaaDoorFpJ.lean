/-
  What is drawn for a choice: three diagrams.
-/
import Derived.Test.YthdofdglbdfkkaaDoorRows
import Derived.Test.YthdofdglbdfkkaaDoorPaA
import Derived.Test.YthdofdglbdfkkaaDoorG0
import Derived.Test.YthdofdglbdfkkaaDoorRd
import Derived.Test.YthdofdglbdfkkaaDoorBdN
import Derived.Test.YthdofdglbdfkkaaDoorFpD
import Derived.Test.YthdofdglbdfkkaaDoorFpG
import Derived.Test.YthdofdglbdfkkaaDoorFpH
import Derived.WalkKit
import Derived.ProofKit
import Derived.OpenShut
import Derived.WalkSpells
import Derived.WalkLawsBesides
import Derived.Outline
import Derived.BigQuiet
import Derived.Handy
import Derived.LoopTactic
import Derived.Deep.Light
import Derived.Deep.RegionWith
import Derived.Deep.RegionHeld3
import Derived.Deep.DeepCutAuto
import Derived.Lib.Hide
import Derived.Maps.OwnRows
import Derived.Deep.Onto
import Derived.OneCell
import Derived.StillTailTactics
import Derived.Deep.AppendLies
import Derived.Deep.RegionLaw
namespace Go.Proofs.YthdofdglbdfkkaaDoor
open Go.ChangeShapes Go.WideShapes Go.ChangeAt Go.RowKit Go.Maps Go.ChangeMaps
set_option linter.unusedVariables false
set_option maxRecDepth 100000

theorem results_cell3 {P : Program} {fn : Func} {p q r : Tmp} {ty : TypeId} (h : fn.results = #[.cell p ty, .cell q ty, .cell r ty]) (tmps : Array Value) (w : World) (g1 g2 g3 : Nat) (t : TypeId) (c1 c2 c3 : Array Value) (fr : Nat × Nat) (d : TypeDesc)
    (hp : tmps.getD p undef = .pointer (some ⟨g1, 0, none⟩)) (hq : tmps.getD q undef = .pointer (some ⟨g2, 0, none⟩)) (hr : tmps.getD r undef = .pointer (some ⟨g3, 0, none⟩))
    (hg1 : w.heap[g1]? = some (.cells c1 t fr)) (hg2 : w.heap[g2]? = some (.cells c2 t fr)) (hg3 : w.heap[g3]? = some (.cells c3 t fr))
    (hu : P.underlying ty = some d) (hd : (match d with | .struct _ | .array _ _ => true | _ => false) = true) (h1 : (P.info? ty).map (·.size) = some c1.size) (h2 : (P.info? ty).map (·.size) = some c2.size) (h3 : (P.info? ty).map (·.size) = some c3.size) :
    (results fn tmps).run P w = .ok (.tuple #[.agg c1, .agg c2, .agg c3]) w := by
  have hp' : tmps[p]?.getD undef = .pointer (some ⟨g1, 0, none⟩) := by simpa using hp
  have hq' : tmps[q]?.getD undef = .pointer (some ⟨g2, 0, none⟩) := by simpa using hq
  have hr' : tmps[r]?.getD undef = .pointer (some ⟨g3, 0, none⟩) := by simpa using hr
  simp [results, h, hp', hq', hr', asAddr, run_loadVar_row w g1 t ty c1 fr d hg1 hu hd h1, run_loadVar_row w g2 t ty c2 fr d hg2 hu hd h2, run_loadVar_row w g3 t ty c3 fr d hg3 hu hd h3]
/-- What is drawn: three diagrams that can be read. -/
def DrIfQ (w : World) (e : Ending) (w' : World) : Prop :=
  ∃ V1 a1 l1 c1 R1 V2 a2 l2 c2 R2 V3 a3 l3 c3 R3, e = .returned (.tuple #[.agg #[.int .i64 V1, .slice a1 l1 c1, .int .i64 R1], .agg #[.int .i64 V2, .slice a2 l2 c2, .int .i64 R2], .agg #[.int .i64 V3, .slice a3 l3 c3, .int .i64 R3]]) ∧ (∃ ms, BnsAt w'.heap.size w' a1 l1 c1 ms) ∧ (∃ ms, BnsAt w'.heap.size w' a2 l2 c2 ms) ∧ (∃ ms, BnsAt w'.heap.size w' a3 l3 c3 ms) ∧ Below w.heap.size w w'
/-- The three cells of the results. -/
structure KsAt (b : Nat) (x y z : Array Value) (w : World) : Prop where
  k1 : w.heap[b]? = some (.cells x 25 (0, 0))
  k2 : w.heap[b + 1]? = some (.cells y 25 (0, 0))
  k3 : w.heap[b + 2]? = some (.cells z 25 (0, 0))
theorem KsAt.lt {b : Nat} {x y z : Array Value} {w : World} (h : KsAt b x y z w) : b + 2 < w.heap.size := blk_lt h.k3
theorem KsAt.only {b R : Nat} {x y z : Array Value} {w w' : World} (h : KsAt b x y z w) (hO : Only R w w') (hR : b + 2 < R) : KsAt b x y z w' := ⟨hO.blk h.k1 (by omega), hO.blk h.k2 (by omega), hO.blk h.k3 (by omega)⟩
theorem KsAt.below {b : Nat} {x y z : Array Value} {w w' : World} (h : KsAt b x y z w) (hb : Below w.heap.size w w') : KsAt b x y z w' := ⟨(hb.block _ (blk_lt h.k1)).trans h.k1, (hb.block _ (blk_lt h.k2)).trans h.k2, (hb.block _ (blk_lt h.k3)).trans h.k3⟩
set_option maxHeartbeats 8000000 in
theorem c_DrawBddIf {B : Nat} {a : Option Addr} {len cap : Nat} (w : World) (h : BytesAt B w a len cap) (hB : B ≤ w.heap.size) :
    Calls Tryd.prog 7 #[.slice a len cap] w (DrIfQ w) := by
  have H := Go.Lib.hid (h.mono hB)
  clear h hB
  go_enter Tryd.func7, Tryd.ntmps7
  go_upto_region 1 with fail
  refine code_gen (R := fun wb => KsAt w.heap.size #[.int .i64 0, .slice none 0 0, .int .i64 0] #[.int .i64 0, .slice none 0 0, .int .i64 0] #[.int .i64 0, .slice none 0 0, .int .i64 0] wb ∧ Below w.heap.size w wb) ⟨⟨(al3 _ _ _ _).1, (al3 _ _ _ _).2.1, (al3 _ _ _ _).2.2⟩, by go_grown⟩ ?_
  rintro w0 ⟨k0, b0⟩
  have K := Go.Lib.hid k0
  have B0 := Go.Lib.hid b0
  have s0 := k0.lt
  clear k0 b0
  go_wp2_with fail
  refine (c_l17Open (B := w0.heap.size) w0 ((H.out.below B0.out).mono (by omega)) (Nat.le_refl _)).mono ?_
  rintro e w1 ⟨rfl, r1, b1⟩
  have RD := Go.Lib.hid r1
  replace K := Go.Lib.hid (K.out.below b1)
  have HB := Go.Lib.hid (B0.out.trans (b1.mono (by omega)))
  clear r1 b1 B0
  obtain ⟨R, hR⟩ : ∃ k, w0.heap.size = k := ⟨_, rfl⟩
  rw [hR] at RD s0 ⊢
  clear hR
  go_wp2_with fail
  refine (c_vars w1 RD.out (by omega)).mono ?_
  rintro e w2 ⟨n, rfl, hn1, hn2, hr, ho⟩
  replace RD := Go.Lib.hid hr
  replace K := Go.Lib.hid (K.out.only ho s0)
  replace HB := Go.Lib.hid (HB.out.trans (ho.below (by omega) HB.out.size))
  have HRL := Go.Lib.hid RD.out.lt
  clear hr ho
  go_wp2_with fail
  refine (c_rdDiagram n w2 RD.out (by omega) hn1 hn2).mono ?_
  rintro e w3 ⟨V1, a1, l1, c1, R1, rfl, hnv, -, -, hr, ho⟩
  have HS := Go.Lib.hid (show R < w2.heap.size from RD.out.lt)
  replace RD := Go.Lib.hid hr
  replace K := Go.Lib.hid (K.out.only ho s0)
  replace HB := Go.Lib.hid (HB.out.trans (ho.below (by omega) HB.out.size))
  have NV1 := Go.Lib.hid (hnv.mono (show R + 1 ≤ w2.heap.size from HS.out))
  clear hr ho hnv HS
  go_wp2_with fail
  refine (c_rdDiagram n w3 RD.out (by omega) hn1 hn2).mono ?_
  rintro e w4 ⟨V2, a2, l2, c2, R2, rfl, hnv, -, -, hr, ho⟩
  have HS := Go.Lib.hid (show R < w3.heap.size from RD.out.lt)
  replace RD := Go.Lib.hid hr
  replace K := Go.Lib.hid (K.out.only ho s0)
  replace HB := Go.Lib.hid (HB.out.trans (ho.below (by omega) HB.out.size))
  have NV2 := Go.Lib.hid (hnv.mono (show R + 1 ≤ w3.heap.size from HS.out))
  replace NV1 := Go.Lib.hid (NV1.out.only ho (Nat.lt_succ_self _))
  clear hr ho hnv HS
  go_wp2_with fail
  refine (c_rdDiagram n w4 RD.out (by omega) hn1 hn2).mono ?_
  rintro e w5 ⟨V3, a3, l3, c3, R3, rfl, hnv, -, -, hr, ho⟩
  have HS := Go.Lib.hid (show R < w4.heap.size from RD.out.lt)
  replace RD := Go.Lib.hid hr
  replace K := Go.Lib.hid (K.out.only ho s0)
  replace HB := Go.Lib.hid (HB.out.trans (ho.below (by omega) HB.out.size))
  have NV3 := Go.Lib.hid (hnv.mono (show R + 1 ≤ w4.heap.size from HS.out))
  replace NV1 := Go.Lib.hid (NV1.out.only ho (Nat.lt_succ_self _))
  replace NV2 := Go.Lib.hid (NV2.out.only ho (Nat.lt_succ_self _))
  clear hr ho hnv HS
  have z1_0 := cell_of_block (i := 0) K.out.k1 (v := .int .i64 0) rfl
  have fz1_0 := free_of_block (i := 0) K.out.k1
  have z1_1 := cell_of_block (i := 1) K.out.k1 (v := .slice none 0 0) rfl
  have fz1_1 := free_of_block (i := 1) K.out.k1
  have z1_2 := cell_of_block (i := 2) K.out.k1 (v := .int .i64 0) rfl
  have fz1_2 := free_of_block (i := 2) K.out.k1
  have z2_0 := cell_of_block (i := 0) K.out.k2 (v := .int .i64 0) rfl
  have fz2_0 := free_of_block (i := 0) K.out.k2
  have z2_1 := cell_of_block (i := 1) K.out.k2 (v := .slice none 0 0) rfl
  have fz2_1 := free_of_block (i := 1) K.out.k2
  have z2_2 := cell_of_block (i := 2) K.out.k2 (v := .int .i64 0) rfl
  have fz2_2 := free_of_block (i := 2) K.out.k2
  have z3_0 := cell_of_block (i := 0) K.out.k3 (v := .int .i64 0) rfl
  have fz3_0 := free_of_block (i := 0) K.out.k3
  have z3_1 := cell_of_block (i := 1) K.out.k3 (v := .slice none 0 0) rfl
  have fz3_1 := free_of_block (i := 1) K.out.k3
  have z3_2 := cell_of_block (i := 2) K.out.k3 (v := .int .i64 0) rfl
  have fz3_2 := free_of_block (i := 2) K.out.k3
  go_wp2_with fail
  refine bodyPost_ret (v := .tuple #[.agg #[.int .i64 V1, .slice a1 l1 c1, .int .i64 R1], .agg #[.int .i64 V2, .slice a2 l2 c2, .int .i64 R2], .agg #[.int .i64 V3, .slice a3 l3 c3, .int .i64 R3]]) (results_cell3 (p := 2) (q := 3) (r := 4) rfl _ _ w.heap.size (w.heap.size + 1) (w.heap.size + 2) 25 _ _ _ (0, 0) _ rfl rfl rfl ((heap_setCell_other _ _ _ _ (by simp <;> omega)).trans ((heap_setCell_other _ _ _ _ (by simp <;> omega)).trans ((heap_setCell_other _ _ _ _ (by simp <;> omega)).trans ((heap_setCell_other _ _ _ _ (by simp <;> omega)).trans ((heap_setCell_other _ _ _ _ (by simp <;> omega)).trans ((heap_setCell_other _ _ _ _ (by simp <;> omega)).trans (heap_setCell_same _ _ 2 _ _ _ (heap_setCell_same _ _ 1 _ _ _ (heap_setCell_same _ _ 0 _ _ _ K.out.k1))))))))) ((heap_setCell_other _ _ _ _ (by simp <;> omega)).trans ((heap_setCell_other _ _ _ _ (by simp <;> omega)).trans ((heap_setCell_other _ _ _ _ (by simp <;> omega)).trans (heap_setCell_same _ _ 2 _ _ _ (heap_setCell_same _ _ 1 _ _ _ (heap_setCell_same _ _ 0 _ _ _ ((heap_setCell_other _ _ _ _ (by simp <;> omega)).trans ((heap_setCell_other _ _ _ _ (by simp <;> omega)).trans ((heap_setCell_other _ _ _ _ (by simp <;> omega)).trans K.out.k2))))))))) (heap_setCell_same _ _ 2 _ _ _ (heap_setCell_same _ _ 1 _ _ _ (heap_setCell_same _ _ 0 _ _ _ ((heap_setCell_other _ _ _ _ (by simp <;> omega)).trans ((heap_setCell_other _ _ _ _ (by simp <;> omega)).trans ((heap_setCell_other _ _ _ _ (by simp <;> omega)).trans ((heap_setCell_other _ _ _ _ (by simp <;> omega)).trans ((heap_setCell_other _ _ _ _ (by simp <;> omega)).trans ((heap_setCell_other _ _ _ _ (by simp <;> omega)).trans K.out.k3))))))))) Tryd.underlying25 rfl (by kernel_rfl) (by kernel_rfl) (by kernel_rfl)) rfl ⟨_, _, _, _, _, _, _, _, _, _, _, _, _, _, _, rfl, ?_, ?_, ?_, (((((((((HB.out.setCell (p := ⟨w.heap.size, 0, none⟩) (by simp) _).setCell (p := ⟨w.heap.size, 1, none⟩) (by simp) _).setCell (p := ⟨w.heap.size, 2, none⟩) (by simp) _).setCell (p := ⟨w.heap.size + 1, 0, none⟩) (by simp) _).setCell (p := ⟨w.heap.size + 1, 1, none⟩) (by simp) _).setCell (p := ⟨w.heap.size + 1, 2, none⟩) (by simp) _).setCell (p := ⟨w.heap.size + 2, 0, none⟩) (by simp) _).setCell (p := ⟨w.heap.size + 2, 1, none⟩) (by simp) _).setCell (p := ⟨w.heap.size + 2, 2, none⟩) (by simp) _)⟩
  · exact (NV1.out.same (fun g hg _ _ => by have h1 := K.out.lt; rw [heap_setCell_other _ _ _ _ (by simp; omega), heap_setCell_other _ _ _ _ (by simp; omega), heap_setCell_other _ _ _ _ (by simp; omega), heap_setCell_other _ _ _ _ (by simp; omega), heap_setCell_other _ _ _ _ (by simp; omega), heap_setCell_other _ _ _ _ (by simp; omega), heap_setCell_other _ _ _ _ (by simp; omega), heap_setCell_other _ _ _ _ (by simp; omega), heap_setCell_other _ _ _ _ (by simp; omega)]) (by simp [World.setCell])).bns
  · exact (NV2.out.same (fun g hg _ _ => by have h1 := K.out.lt; rw [heap_setCell_other _ _ _ _ (by simp; omega), heap_setCell_other _ _ _ _ (by simp; omega), heap_setCell_other _ _ _ _ (by simp; omega), heap_setCell_other _ _ _ _ (by simp; omega), heap_setCell_other _ _ _ _ (by simp; omega), heap_setCell_other _ _ _ _ (by simp; omega), heap_setCell_other _ _ _ _ (by simp; omega), heap_setCell_other _ _ _ _ (by simp; omega), heap_setCell_other _ _ _ _ (by simp; omega)]) (by simp [World.setCell])).bns
  · exact (NV3.out.same (fun g hg _ _ => by have h1 := K.out.lt; rw [heap_setCell_other _ _ _ _ (by simp; omega), heap_setCell_other _ _ _ _ (by simp; omega), heap_setCell_other _ _ _ _ (by simp; omega), heap_setCell_other _ _ _ _ (by simp; omega), heap_setCell_other _ _ _ _ (by simp; omega), heap_setCell_other _ _ _ _ (by simp; omega), heap_setCell_other _ _ _ _ (by simp; omega), heap_setCell_other _ _ _ _ (by simp; omega), heap_setCell_other _ _ _ _ (by simp; omega)]) (by simp [World.setCell])).bns
end Go.Proofs.YthdofdglbdfkkaaDoor
