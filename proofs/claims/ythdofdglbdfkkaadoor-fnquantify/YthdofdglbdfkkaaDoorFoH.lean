/-
  The model's BddSome.
-/
import Derived.Test.YthdofdglbdfkkaaDoorRows
import Derived.Test.YthdofdglbdfkkaaDoorFoC
import Derived.Test.YthdofdglbdfkkaaDoorFoG
import Derived.Test.YthdofdglbdfkkaaDoorFoI
import Derived.WalkKit
import Derived.ProofKit
import Derived.OpenShut
import Derived.WalkSpells
import Derived.WalkLawsBesides
import Derived.Outline
import Derived.BigQuiet
import Derived.Handy
import Derived.LoopTactic
import Derived.Deep.Light
import Derived.Deep.RegionWith
import Derived.Deep.RegionHeld3
import Derived.Deep.DeepCutAuto
import Derived.Lib.Hide
import Derived.Maps.OwnRows
import Derived.Deep.Onto
import Derived.OneCell
import Derived.StillTailTactics
import Derived.Deep.AppendLies
import Derived.Deep.RegionLaw
namespace Go.Proofs.YthdofdglbdfkkaaDoor
open Go.ChangeShapes Go.WideShapes Go.ChangeAt Go.RowKit Go.Maps Go.ChangeMaps
set_option linter.unusedVariables false
set_option maxRecDepth 100000


set_option maxHeartbeats 8000000 in
theorem c_BddSomeS {B : Nat} {a1 : Option Addr} {len1 cap1 : Nat} {ns1 : List BN} (V1 r1 : Int) (i : Int) (w : World) (hBw : B ≤ w.heap.size) (hn1 : BnsAt B w a1 len1 cap1 ns1) :
    Calls Tryd.prog 17 #[.agg #[.int .i64 V1, .slice a1 len1 cap1, .int .i64 r1], .int .i64 i] w (BddQ (CondR (OkB V1 ns1 r1 ∧ 0 ≤ i ∧ i < V1) V1 (fun c => evF ns1 r1 (fixc i false c) || evF ns1 r1 (fixc i true c))) w) := by
  have HN1 := Go.Lib.hid hn1
  clear hn1
  go_enter Tryd.func17, Tryd.ntmps17
  go_upto_region 1 with fail
  refine code_gen (R := fun wb => wb.heap[w.heap.size]? = some (.cells #[.int .i64 V1, .slice a1 len1 cap1, .int .i64 r1] 25 (0, 0)) ∧ wb.heap[w.heap.size + 1]? = some (.cells #[.int .i64 0, .slice none 0 0, .int .i64 0] 25 (0, 0)) ∧ Below w.heap.size w wb) ⟨(al2 _ _ _).1, (al2 _ _ _).2, by go_grown⟩ ?_
  rintro w0 ⟨k0, k1, hb0⟩
  have K0_0 := Go.Lib.hid k0
  have K1_0 := Go.Lib.hid k1
  have B_0 := Go.Lib.hid hb0
  have N1_0 := Go.Lib.hid (HN1.out.below (hb0.mono hBw))
  have hB_0 : B ≤ w0.heap.size := Nat.le_trans hBw hb0.size
  clear k0 k1 hb0
  have x00 := cell_of_block (i := 0) K0_0.out (v := .int .i64 V1) rfl
  have x01 := cell_of_block (i := 1) K0_0.out (v := .slice a1 len1 cap1) rfl
  have x02 := cell_of_block (i := 2) K0_0.out (v := .int .i64 r1) rfl
  go_wp2_with fail
  refine (c_BddFixS (B := B) V1 r1 i false w0 hB_0 N1_0.out).mono ?_
  rintro e w1 ⟨x, VA, RA, qA, msA, rfl, hown, hrel, hq⟩
  obtain ⟨xaA, xcA, rfl, -⟩ := OwnN.form hown
  have OA_1 := Go.Lib.hid hown
  have EA := Go.Lib.hid hrel
  have K0_1 := Go.Lib.hid (blk_keep K0_0.out hq)
  have K1_1 := Go.Lib.hid (blk_keep K1_0.out hq)
  have B_1 := Go.Lib.hid (B_0.out.trans (hq.mono B_0.out.size))
  have N1_1 := Go.Lib.hid (N1_0.out.below (hq.mono hB_0))
  have hB_1 : B ≤ w1.heap.size := Nat.le_trans hB_0 hq.size
  clear hown hrel hq x00 x01 x02
  go_upto_region 2 with fail
  refine code_gen (R := fun wb => wb.heap[w1.heap.size]? = some (.cells #[.int .i64 VA, .slice xaA msA.length xcA, .int .i64 RA] 25 (0, 0)) ∧ Below w1.heap.size w1 wb) ⟨by first | exact (MapKept.heap_alloc _ _).1 | exact heap_alloc_new _ _, by go_grown⟩ ?_
  rintro w2 ⟨kk, hq⟩
  have K0_2 := Go.Lib.hid (blk_keep K0_1.out hq)
  have K1_2 := Go.Lib.hid (blk_keep K1_1.out hq)
  have B_2 := Go.Lib.hid (B_1.out.trans (hq.mono B_1.out.size))
  have N1_2 := Go.Lib.hid (N1_1.out.below (hq.mono hB_1))
  have hB_2 : B ≤ w2.heap.size := Nat.le_trans hB_1 hq.size
  have OA_2 := Go.Lib.hid (OA_1.out.below hq)
  obtain ⟨gA, hgA⟩ : ∃ g, w1.heap.size = g := ⟨_, rfl⟩
  rw [hgA] at kk ⊢
  have AA_2 := Go.Lib.hid kk
  clear kk hq hgA
  have x00 := cell_of_block (i := 0) K0_2.out (v := .int .i64 V1) rfl
  have x01 := cell_of_block (i := 1) K0_2.out (v := .slice a1 len1 cap1) rfl
  have x02 := cell_of_block (i := 2) K0_2.out (v := .int .i64 r1) rfl
  go_wp2_with fail
  refine (c_BddFixS (B := B) V1 r1 i true w2 hB_2 N1_2.out).mono ?_
  rintro e w3 ⟨x, VB, RB, qB, msB, rfl, hown, hrel, hq⟩
  obtain ⟨xaB, xcB, rfl, -⟩ := OwnN.form hown
  have OB_3 := Go.Lib.hid hown
  have EB := Go.Lib.hid hrel
  have K0_3 := Go.Lib.hid (blk_keep K0_2.out hq)
  have K1_3 := Go.Lib.hid (blk_keep K1_2.out hq)
  have B_3 := Go.Lib.hid (B_2.out.trans (hq.mono B_2.out.size))
  have N1_3 := Go.Lib.hid (N1_2.out.below (hq.mono hB_2))
  have hB_3 : B ≤ w3.heap.size := Nat.le_trans hB_2 hq.size
  have AA_3 := Go.Lib.hid (blk_keep AA_2.out hq)
  have OA_3 := Go.Lib.hid (OA_2.out.below hq)
  clear hown hrel hq x00 x01 x02
  go_upto_region 3 with fail
  refine code_gen (R := fun wb => wb.heap[w3.heap.size]? = some (.cells #[.int .i64 VB, .slice xaB msB.length xcB, .int .i64 RB] 25 (0, 0)) ∧ Below w3.heap.size w3 wb) ⟨by first | exact (MapKept.heap_alloc _ _).1 | exact heap_alloc_new _ _, by go_grown⟩ ?_
  rintro w4 ⟨kk, hq⟩
  have K0_4 := Go.Lib.hid (blk_keep K0_3.out hq)
  have K1_4 := Go.Lib.hid (blk_keep K1_3.out hq)
  have B_4 := Go.Lib.hid (B_3.out.trans (hq.mono B_3.out.size))
  have N1_4 := Go.Lib.hid (N1_3.out.below (hq.mono hB_3))
  have hB_4 : B ≤ w4.heap.size := Nat.le_trans hB_3 hq.size
  have AA_4 := Go.Lib.hid (blk_keep AA_3.out hq)
  have OA_4 := Go.Lib.hid (OA_3.out.below hq)
  have OB_4 := Go.Lib.hid (OB_3.out.below hq)
  obtain ⟨gB, hgB⟩ : ∃ g, w3.heap.size = g := ⟨_, rfl⟩
  rw [hgB] at kk ⊢
  have AB_4 := Go.Lib.hid kk
  clear kk hq hgB
  by_cases hc : OkB V1 ns1 r1 ∧ 0 ≤ i ∧ i < V1
  rotate_left
  · have HC := Go.Lib.hid hc
    obtain ⟨h1, -⟩ | ⟨-, rfl, rfl, rfl, rfl⟩ := EA.out
    · exact absurd h1 hc
    clear hc
    have z0 := cell_of_block (i := 0) K1_4.out (v := .int .i64 0) rfl
    have f0 := free_of_block (i := 0) K1_4.out
    have z1 := cell_of_block (i := 1) K1_4.out (v := .slice none 0 0) rfl
    have f1 := free_of_block (i := 1) K1_4.out
    have z2 := cell_of_block (i := 2) K1_4.out (v := .int .i64 0) rfl
    have f2 := free_of_block (i := 2) K1_4.out
    go_wp2_with fail
    refine bodyPost_ret (v := .tuple #[.agg #[.int .i64 0, .slice none 0 0, .int .i64 0], .bool false]) (results_cell_q (p := 4) (q := 5) rfl _ _ (w.heap.size + 1) 25 _ (0, 0) _ rfl rfl (heap_setCell_same _ _ 2 _ _ _ (heap_setCell_same _ _ 1 _ _ _ (heap_setCell_same _ _ 0 _ _ _ K1_4.out))) Tryd.underlying25 rfl (by kernel_rfl)) rfl ⟨_, _, _, _, [], rfl, OwnN.nil _ _, .inr ⟨(fun h => HC.out h), rfl, rfl, rfl, rfl⟩, ?_⟩
    exact (((B_4.out).setCell (p := ⟨w.heap.size + 1, 0, none⟩) (Nat.le_add_right _ _) _).setCell (p := ⟨w.heap.size + 1, 1, none⟩) (Nat.le_add_right _ _) _).setCell (p := ⟨w.heap.size + 1, 2, none⟩) (Nat.le_add_right _ _) _
  have aA0 := cell_of_block (i := 0) AA_4.out (v := .int .i64 VA) rfl
  have aA1 := cell_of_block (i := 1) AA_4.out (v := .slice xaA msA.length xcA) rfl
  have aA2 := cell_of_block (i := 2) AA_4.out (v := .int .i64 RA) rfl
  have aB0 := cell_of_block (i := 0) AB_4.out (v := .int .i64 VB) rfl
  have aB1 := cell_of_block (i := 1) AB_4.out (v := .slice xaB msB.length xcB) rfl
  have aB2 := cell_of_block (i := 2) AB_4.out (v := .int .i64 RB) rfl
  have HC := Go.Lib.hid hc
  obtain ⟨-, ra⟩ | ⟨h1, -⟩ := EA.out
  rotate_left
  · exact absurd hc h1
  obtain ⟨-, rb⟩ | ⟨h1, -⟩ := EB.out
  rotate_left
  · exact absurd hc h1
  obtain ⟨rfl, hVA, ka, fa⟩ := fix_ans hc.1 ra
  obtain ⟨rfl, hVB, kb, fb⟩ := fix_ans hc.1 rb
  subst hVA
  subst hVB
  have KA := Go.Lib.hid ka
  have KB := Go.Lib.hid kb
  have FA := Go.Lib.hid fa
  have FB := Go.Lib.hid fb
  clear hc ra rb ka kb fa fb
  go_wp2_with fail
  refine (c_BddOrS (B := w4.heap.size) _ RA _ RB w4 (Nat.le_refl _) (OA_4.out.bns rfl) (OB_4.out.bns rfl)).mono ?_
  rintro e w5 ⟨x, V, R, bb, ms, rfl, hown, hrel, hq⟩
  have K1_5 := Go.Lib.hid (blk_keep K1_4.out hq)
  have B_5 := Go.Lib.hid (B_4.out.trans (hq.mono B_4.out.size))
  have HKL := Go.Lib.hid (blk_lt K1_4.out)
  have HOW := Go.Lib.hid hown
  have HREL := Go.Lib.hid hrel
  obtain ⟨xa, xc, rfl, -⟩ := OwnN.form hown
  clear hown hrel hq
  have z0 := cell_of_block (i := 0) K1_5.out (v := .int .i64 0) rfl
  have f0 := free_of_block (i := 0) K1_5.out
  have z1 := cell_of_block (i := 1) K1_5.out (v := .slice none 0 0) rfl
  have f1 := free_of_block (i := 1) K1_5.out
  have z2 := cell_of_block (i := 2) K1_5.out (v := .int .i64 0) rfl
  have f2 := free_of_block (i := 2) K1_5.out
  go_wp2_with fail
  refine bodyPost_ret (v := .tuple #[.agg #[.int .i64 V, .slice xa ms.length xc, .int .i64 R], .bool bb]) (results_cell_q (p := 4) (q := 5) rfl _ _ (w.heap.size + 1) 25 _ (0, 0) _ rfl rfl (heap_setCell_same _ _ 2 _ _ _ (heap_setCell_same _ _ 1 _ _ _ (heap_setCell_same _ _ 0 _ _ _ K1_5.out))) Tryd.underlying25 rfl (by kernel_rfl)) rfl ⟨_, _, _, _, ms, rfl, ?_, HREL.out.congr ⟨fun _ => HC.out, fun _ => ⟨rfl, KA.out, KB.out⟩⟩ (fun _ c h0 h1 => by rw [rl_or, FA.out c h0 h1, FB.out c h0 h1]), ?_⟩
  · exact OwnN.mono (OwnN.block HOW.out (fun y h1 _ _ => by have h2 := HKL.out; rw [heap_setCell_other _ _ _ _ (by show y ≠ w.heap.size + 1; omega), heap_setCell_other _ _ _ _ (by show y ≠ w.heap.size + 1; omega), heap_setCell_other _ _ _ _ (by show y ≠ w.heap.size + 1; omega)])) B_4.out.size
  · exact (((B_5.out).setCell (p := ⟨w.heap.size + 1, 0, none⟩) (Nat.le_add_right _ _) _).setCell (p := ⟨w.heap.size + 1, 1, none⟩) (Nat.le_add_right _ _) _).setCell (p := ⟨w.heap.size + 1, 2, none⟩) (Nat.le_add_right _ _) _
end Go.Proofs.YthdofdglbdfkkaaDoor
