/-
  All nodes of a diagram are right: the program.
-/
import Derived.Test.YthdofdglbdfkkaaDoorRows
import Derived.Test.YthdofdglbdfkkaaDoorG0
import Derived.Test.YthdofdglbdfkkaaDoorBdM
import Derived.Test.YthdofdglbdfkkaaDoorBdI
import Derived.WalkKit
import Derived.ProofKit
import Derived.OpenShut
import Derived.WalkSpells
import Derived.WalkLawsBesides
import Derived.Outline
import Derived.BigQuiet
import Derived.Handy
import Derived.LoopTactic
import Derived.Deep.Light
import Derived.Deep.RegionWith
import Derived.Deep.RegionHeld3
import Derived.Deep.DeepCutAuto
import Derived.Lib.Hide
import Derived.Maps.OwnRows
import Derived.Deep.Onto
import Derived.OneCell
import Derived.StillTailTactics
import Derived.Deep.AppendLies
import Derived.Deep.RegionLaw
namespace Go.Proofs.YthdofdglbdfkkaaDoor
open Go.ChangeShapes Go.WideShapes Go.ChangeAt Go.RowKit Go.Maps Go.ChangeMaps
set_option linter.unusedVariables false
set_option maxRecDepth 100000


set_option maxHeartbeats 8000000 in
theorem c_bddNodesOk {B : Nat} {a : Option Addr} {len cap : Nat} {ns : List BN} (vars root : Int) (w : World) (hBw : B ≤ w.heap.size) (h : BnsAt B w a len cap ns) (hl : len ≤ 600) :
    Calls Tryd.prog 73 #[.agg #[.int .i64 vars, .slice a len cap, .int .i64 root]] w fun e w' => BoolIs (∀ k, k < len → nFine vars ns k) e ∧ Below w.heap.size w w' := by
  have HN := Go.Lib.hid h
  have hcap : len ≤ cap := h.2.1
  clear h
  go_enter Tryd.func73, Tryd.ntmps73
  go_upto_region 1 with fail
  refine code_gen (R := fun wb => BBox vars a len cap root w wb) (BBox.new _ _ _ _ _ _) ?_
  intro w0 hbox
  have HX0 := Go.Lib.hid hbox
  obtain ⟨x0, x1, x2⟩ := hbox.cells
  clear hbox
  go_wp2_with fail
  go_loopw [8] (fun i wr => ∃ k : Nat, k ≤ len ∧ i = .int .i64 k ∧ (∀ y : Nat, y < k → nFine vars ns y) ∧ BBox vars a len cap root w wr) (fun i _ => len - (intOf i).toNat)
  case atStart => exact ⟨0, by omega, rfl, fun y h => by omega, HX0.out⟩
  case round =>
    obtain ⟨k, hk, rfl, hno, hbox⟩ := hrel
    have HNO := Go.Lib.hid hno
    have HX := Go.Lib.hid hbox
    clear hno hbox x0 x1 x2 HX0
    by_cases hkl : k < len
    · have hki : (k : Int) < len := by omega
      obtain ⟨x, b, off, hx, -, rfl, hbB, c0, c1, c2⟩ := bn_at (HN.out.below (HX.out.bel.mono hBw)) hkl
      have HFB := Go.Lib.hid (show fineB vars ns k = (bitB vars x.v && !(x.lo == x.hi) && leadB ns k x.v x.lo && leadB ns k x.v x.hi) by unfold fineB; rw [← hx])
      clear hx
      go_upto_region 4 with fail
      refine code_gen (R := fun wb => wb.heap[wr.heap.size]? = some (.cells #[.int .i64 x.v, .int .i64 x.lo, .int .i64 x.hi] 67 (0, 0)) ∧ Below wr.heap.size wr wb) ⟨by first | exact (MapKept.heap_alloc _ _).1 | exact heap_alloc_new _ _, by go_grown⟩ ?_
      rintro w1 ⟨k1, hb1⟩
      have HX1 := Go.Lib.hid (HX.out.below hb1)
      have HN1 := Go.Lib.hid (HN.out.below (HX1.out.bel.mono hBw))
      obtain ⟨x0, x1, x2⟩ := HX1.out.cells
      have n0 := cell_of_block (i := 0) k1 (v := .int .i64 x.v) rfl
      have n1 := cell_of_block (i := 1) k1 (v := .int .i64 x.lo) rfl
      have n2 := cell_of_block (i := 2) k1 (v := .int .i64 x.hi) rfl
      have hkc : (k : Int) ≤ cap := by omega
      clear c0 c1 c2 k1 hb1
      cases t1 : bitB vars x.v
      · go_quiet (first | (go_at_call 46; exact Calls.quiet_of_same (c_bitOk _ _ _)) | (go_at_call 91; exact Calls.quiet_of_same (c_leadsOn (B := B) k _ _ _ (RowsAt.drewN HN1.out _) hl hk)))
        go_wp2_with fail
        go_ret
        exact ⟨BoolIs.no (fun hall => by have := fineB_iff.2 (hall k hkl); rw [HFB.out] at this; simp [t1] at this), below_drewN HX1.out.bel _⟩
      cases t2 : (x.lo == x.hi)
      rotate_left
      · go_quiet (first | (go_at_call 46; exact Calls.quiet_of_same (c_bitOk _ _ _)) | (go_at_call 91; exact Calls.quiet_of_same (c_leadsOn (B := B) k _ _ _ (RowsAt.drewN HN1.out _) hl hk)))
        go_wp2_with fail
        go_ret
        exact ⟨BoolIs.no (fun hall => by have := fineB_iff.2 (hall k hkl); rw [HFB.out] at this; simp [t2] at this), below_drewN HX1.out.bel _⟩
      cases t3 : leadB ns k x.v x.lo
      · go_quiet (first | (go_at_call 46; exact Calls.quiet_of_same (c_bitOk _ _ _)) | (go_at_call 91; exact Calls.quiet_of_same (c_leadsOn (B := B) k _ _ _ (RowsAt.drewN HN1.out _) hl hk)))
        go_wp2_with fail
        go_ret
        exact ⟨BoolIs.no (fun hall => by have := fineB_iff.2 (hall k hkl); rw [HFB.out] at this; simp [t3] at this), below_drewN HX1.out.bel _⟩
      cases t4 : leadB ns k x.v x.hi
      · go_quiet (first | (go_at_call 46; exact Calls.quiet_of_same (c_bitOk _ _ _)) | (go_at_call 91; exact Calls.quiet_of_same (c_leadsOn (B := B) k _ _ _ (RowsAt.drewN HN1.out _) hl hk)))
        go_wp2_with fail
        go_ret
        exact ⟨BoolIs.no (fun hall => by have := fineB_iff.2 (hall k hkl); rw [HFB.out] at this; simp [t4] at this), below_drewN HX1.out.bel _⟩
      have HFT := Go.Lib.hid (show fineB vars ns k = true by rw [HFB.out, t1, t2, t3, t4]; rfl)
      go_quiet (first | (go_at_call 46; exact Calls.quiet_of_same (c_bitOk _ _ _)) | (go_at_call 91; exact Calls.quiet_of_same (c_leadsOn (B := B) k _ _ _ (RowsAt.drewN HN1.out _) hl hk)))
      go_wp2_with fail
      go_roundw
      case rel => exact ⟨k + 1, by omega, by go_num, fun y hy => by
        rcases Nat.lt_or_ge y k with h | h
        · exact HNO.out y h
        · obtain rfl : y = k := by omega
          exact fineB_iff.1 HFT.out, ⟨HX1.out.blk, below_drewN HX1.out.bel _⟩⟩
      case measure => simp [intOf] <;> omega
    · have hki : ¬ (k : Int) < len := by omega
      go_wp2_with fail
      go_ret
      exact ⟨BoolIs.yes (fun y hy => HNO.out y (by omega)), HX.out.bel⟩
end Go.Proofs.YthdofdglbdfkkaaDoor
