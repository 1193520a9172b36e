/-
  The law of BddVar.
-/
import Derived.Test.YtpehddfnlmkicaaDoorRows
import Derived.Test.YtpehddfnlmkicaaDoorPaA
import Derived.Test.YtpehddfnlmkicaaDoorG0
import Derived.Test.YtpehddfnlmkicaaDoorBdM
import Derived.Test.YtpehddfnlmkicaaDoorBdI
import Derived.Test.YtpehddfnlmkicaaDoorBdL
import Derived.Test.YtpehddfnlmkicaaDoorBdT
import Derived.Test.YtpehddfnlmkicaaDoorBdC
import Derived.Test.YtpehddfnlmkicaaDoorBdN
import Derived.Test.YtpehddfnlmkicaaDoorBdX
import Derived.Test.YtpehddfnlmkicaaDoorBdY
import Derived.Test.YtpehddfnlmkicaaDoorFoE
import Derived.Test.YtpehddfnlmkicaaDoorFoO
import Derived.Test.YtpehddfnlmkicaaDoorLawD0
import Derived.WalkKit
import Derived.ProofKit
import Derived.OpenShut
import Derived.WalkSpells
import Derived.WalkLawsBesides
import Derived.Outline
import Derived.BigQuiet
import Derived.Handy
import Derived.LoopTactic
import Derived.Deep.Light
import Derived.Deep.RegionWith
import Derived.Deep.RegionHeld3
import Derived.Deep.DeepCutAuto
import Derived.Lib.Hide
import Derived.Maps.OwnRows
import Derived.Deep.Onto
import Derived.OneCell
import Derived.StillTailTactics
import Derived.Deep.AppendLies
import Derived.Deep.RegionLaw
namespace Go.Proofs.YtpehddfnlmkicaaDoor
open Go.ChangeShapes Go.WideShapes Go.ChangeAt Go.RowKit Go.Maps Go.ChangeMaps
set_option linter.unusedVariables false
set_option maxRecDepth 100000


set_option maxHeartbeats 16000000 in
theorem w_FnExactBddVar (vars i : Int) (W : World) (hgl : Glob W) :
    Calls Tryd.prog 3 #[.int .i64 vars, .int .i64 i] W fun e w' => e = .returned (.bool true) ∧ Below W.heap.size W w' := by
  have GL := Go.Lib.hid hgl
  have hg0 : 0 < W.heap.size := hgl.1
  clear hgl
  go_enter Tryd.func3, Tryd.ntmps3
  go_wp2_with fail
  refine (c_BddVarS vars i W).mono ?_
  rintro e w1 ⟨vw, V, R, q1, ms, rfl, how, hcr, hq⟩
  replace GL := Go.Lib.hid (GL.out.below hq)
  have HB := Go.Lib.hid hq
  obtain ⟨aw, cw, rfl, -⟩ := OwnN.form how
  have HOW := Go.Lib.hid how
  have HCR := Go.Lib.hid hcr
  have HVW := Go.Lib.hid (show ∀ y, Value.ownBlock (.slice aw ms.length cw) = some y → y < w1.heap.size from fun y hy => (how.1.lt y hy).2)
  have hlw : ms.length ≤ 1048576 := by have := hcr.len; omega
  have hs1 := HB.out.size
  clear how hcr hq
  go_upto_region 2 with fail
  refine code_gen (R := fun wb => wb.heap[w1.heap.size]? = some (.cells #[.int .i64 V, .slice aw ms.length cw, .int .i64 R] 24 (0, 0)) ∧ Below w1.heap.size w1 wb) ⟨by first | exact (MapKept.heap_alloc _ _).1 | exact heap_alloc_new _ _, by go_grown⟩ ?_
  rintro w2 ⟨k, hq⟩
  have lgw : w1.heap.size < w2.heap.size := (Array.getElem?_eq_some_iff.1 k).1
  replace GL := Go.Lib.hid (GL.out.below hq)
  replace HOW := Go.Lib.hid (HOW.out.below hq)
  replace HB := Go.Lib.hid (HB.out.trans (hq.mono HB.out.size))
  obtain ⟨gw, hgw⟩ : ∃ g, w1.heap.size = g := ⟨_, rfl⟩
  rw [hgw] at k lgw ⊢
  have HEgw := Go.Lib.hid hgw
  have Hgw := Go.Lib.hid k
  clear k hq hgw
  have HVW2 := Go.Lib.hid (show ∀ y, Value.ownBlock (.slice aw ms.length cw) = some y → y < gw from fun y hy => by have h1 := HVW.out y hy; have h2 := HEgw.out; omega)
  clear HVW
  have hWgw : W.heap.size ≤ gw := by rw [← HEgw.out]; exact hs1
  have hgw2 : gw < w2.heap.size := lgw
  have cgw_0 := cell_of_block (i := 0) Hgw.out (v := .int .i64 V) rfl
  have cgw_1 := cell_of_block (i := 1) Hgw.out (v := .slice aw ms.length cw) rfl
  have cgw_2 := cell_of_block (i := 2) Hgw.out (v := .int .i64 R) rfl
  go_wp2_with fail
  refine (c_BddVarI vars i w2 GL.out).mono ?_
  rintro e w3 ⟨vg, V', R', q2, ms', rfl, hog, hcr, hq⟩
  replace Hgw := Go.Lib.hid ((hq.block _ lgw).trans Hgw.out)
  replace lgw := Nat.lt_of_lt_of_le lgw hq.size
  replace GL := Go.Lib.hid (GL.out.below hq)
  replace HOW := Go.Lib.hid (HOW.out.below hq)
  replace HB := Go.Lib.hid (HB.out.trans (hq.mono HB.out.size))
  clear cgw_0 cgw_1 cgw_2
  obtain ⟨rfl, rfl, rfl, rfl⟩ := hcr.inj (fun h => by have h1 := of_decide_eq_true h.1; omega) HCR.out
  obtain ⟨ag, cg, rfl, hfm⟩ := OwnN.form hog
  have HOG := Go.Lib.hid hog
  have HRG := Go.Lib.hid (ownBS_of hfm)
  have HGB := Go.Lib.hid (ownB_at hfm)
  clear hog hcr hfm hq
  have cgw_0 := cell_of_block (i := 0) Hgw.out (v := .int .i64 V') rfl
  have cgw_1 := cell_of_block (i := 1) Hgw.out (v := .slice aw ms'.length cw) rfl
  have cgw_2 := cell_of_block (i := 2) Hgw.out (v := .int .i64 R') rfl
  go_upto_region 3 with fail
  refine code_gen (R := fun wb => wb.heap[w3.heap.size]? = some (.cells #[.int .i64 V', .slice ag ms'.length cg, .int .i64 R'] 24 (0, 0)) ∧ Below w3.heap.size w3 wb) ⟨by first | exact (MapKept.heap_alloc _ _).1 | exact heap_alloc_new _ _, by go_grown⟩ ?_
  rintro w4 ⟨k, hq⟩
  have lgg : w3.heap.size < w4.heap.size := (Array.getElem?_eq_some_iff.1 k).1
  replace Hgw := Go.Lib.hid ((hq.block _ lgw).trans Hgw.out)
  replace lgw := Nat.lt_of_lt_of_le lgw hq.size
  replace GL := Go.Lib.hid (GL.out.below hq)
  replace HOW := Go.Lib.hid (HOW.out.below hq)
  replace HOG := Go.Lib.hid (HOG.out.below hq)
  replace HRG := Go.Lib.hid (HRG.out.below hq)
  replace HB := Go.Lib.hid (HB.out.trans (hq.mono HB.out.size))
  clear cgw_0 cgw_1 cgw_2
  obtain ⟨gg, hgg⟩ : ∃ g, w3.heap.size = g := ⟨_, rfl⟩
  rw [hgg] at k lgg ⊢
  have HEgg := Go.Lib.hid hgg
  have Hgg := Go.Lib.hid k
  clear k hq hgg
  have HGC := Go.Lib.hid (show ∀ b, ag = some ⟨b, 0, none⟩ → w2.heap.size ≤ b ∧ b < gg from fun b hb => ⟨(HGB.out b hb).1, by have h1 := (HGB.out b hb).2; have h2 := HEgg.out; omega⟩)
  clear HGB
  have cgw_0 := cell_of_block (i := 0) Hgw.out (v := .int .i64 V') rfl
  have cgw_1 := cell_of_block (i := 1) Hgw.out (v := .slice aw ms'.length cw) rfl
  have cgw_2 := cell_of_block (i := 2) Hgw.out (v := .int .i64 R') rfl
  have cgg_0 := cell_of_block (i := 0) Hgg.out (v := .int .i64 V') rfl
  have cgg_1 := cell_of_block (i := 1) Hgg.out (v := .slice ag ms'.length cg) rfl
  have cgg_2 := cell_of_block (i := 2) Hgg.out (v := .int .i64 R') rfl
  go_wp2_with fail
  refine (c_eqBdd (B := w4.heap.size) V' R' w4 (Nat.le_refl _) (HOG.out.bns rfl) (HOW.out.bns rfl)).mono ?_
  rintro e w5 ⟨rfl, hq⟩
  replace Hgw := Go.Lib.hid ((hq.block _ lgw).trans Hgw.out)
  replace lgw := Nat.lt_of_lt_of_le lgw hq.size
  replace Hgg := Go.Lib.hid ((hq.block _ lgg).trans Hgg.out)
  replace lgg := Nat.lt_of_lt_of_le lgg hq.size
  replace GL := Go.Lib.hid (GL.out.below hq)
  replace HOW := Go.Lib.hid (HOW.out.below hq)
  replace HOG := Go.Lib.hid (HOG.out.below hq)
  replace HRG := Go.Lib.hid (HRG.out.below hq)
  replace HB := Go.Lib.hid (HB.out.trans (hq.mono HB.out.size))
  clear cgw_0 cgw_1 cgw_2 cgg_0 cgg_1 cgg_2
  clear hq
  clear HOG
  have cgw_0 := cell_of_block (i := 0) Hgw.out (v := .int .i64 V') rfl
  have cgw_1 := cell_of_block (i := 1) Hgw.out (v := .slice aw ms'.length cw) rfl
  have cgw_2 := cell_of_block (i := 2) Hgw.out (v := .int .i64 R') rfl
  have cgg_0 := cell_of_block (i := 0) Hgg.out (v := .int .i64 V') rfl
  have cgg_1 := cell_of_block (i := 1) Hgg.out (v := .slice ag ms'.length cg) rfl
  have cgg_2 := cell_of_block (i := 2) Hgg.out (v := .int .i64 R') rfl
  go_wp2_with fail
  refine (c_markBddL (T := fun b => ag = some ⟨b, 0, none⟩) V' R' hlw w5 HRG.out).mono ?_
  rintro e w6 ⟨rfl, ht, hhd⟩
  replace Hgw := Go.Lib.hid ((ht.block _ lgw (fun e => by have h1 := HGC.out gw e; omega)).trans Hgw.out)
  replace lgw := Nat.lt_of_lt_of_le lgw ht.size
  replace Hgg := Go.Lib.hid ((ht.block _ lgg (fun e => by have h1 := HGC.out gg e; omega)).trans Hgg.out)
  replace lgg := Nat.lt_of_lt_of_le lgg ht.size
  replace GL := Go.Lib.hid (GL.out.touch ht (fun e => by have h1 := (HGC.out 0 e).1; omega))
  replace HOW := Go.Lib.hid (HOW.out.touch ht (fun y _ _ hy e => by have h1 := (HGC.out y e).1; have h2 := HVW2.out y hy; omega))
  replace HB := Go.Lib.hid (HB.out.trans (ht.belowAt (B := W.heap.size) HB.out.size (fun b hb => by have h1 := (HGC.out b hb).1; omega)))
  clear cgw_0 cgw_1 cgw_2 cgg_0 cgg_1 cgg_2
  have HHD := Go.Lib.hid hhd
  clear ht hhd HRG
  have hp1 : ¬ (1 + 3 * (ms'.length : Int)) < 0 := by omega
  have cgw_0 := cell_of_block (i := 0) Hgw.out (v := .int .i64 V') rfl
  have cgw_1 := cell_of_block (i := 1) Hgw.out (v := .slice aw ms'.length cw) rfl
  have cgw_2 := cell_of_block (i := 2) Hgw.out (v := .int .i64 R') rfl
  have cgg_0 := cell_of_block (i := 0) Hgg.out (v := .int .i64 V') rfl
  have cgg_1 := cell_of_block (i := 1) Hgg.out (v := .slice ag ms'.length cg) rfl
  have cgg_2 := cell_of_block (i := 2) Hgg.out (v := .int .i64 R') rfl
  go_wp2_with fail
  refine (c_heldBddL V' R' hlw w6 HHD.out).mono ?_
  rintro e w7 ⟨rfl, hq⟩
  replace Hgw := Go.Lib.hid ((hq.block _ lgw).trans Hgw.out)
  replace lgw := Nat.lt_of_lt_of_le lgw hq.size
  replace Hgg := Go.Lib.hid ((hq.block _ lgg).trans Hgg.out)
  replace lgg := Nat.lt_of_lt_of_le lgg hq.size
  replace GL := Go.Lib.hid (GL.out.below hq)
  replace HOW := Go.Lib.hid (HOW.out.below hq)
  replace HHD := Go.Lib.hid (HHD.out.below hq)
  replace HB := Go.Lib.hid (HB.out.trans (hq.mono HB.out.size))
  clear cgw_0 cgw_1 cgw_2 cgg_0 cgg_1 cgg_2
  clear hq
  have cgw_0 := cell_of_block (i := 0) Hgw.out (v := .int .i64 V') rfl
  have cgw_1 := cell_of_block (i := 1) Hgw.out (v := .slice aw ms'.length cw) rfl
  have cgw_2 := cell_of_block (i := 2) Hgw.out (v := .int .i64 R') rfl
  have cgg_0 := cell_of_block (i := 0) Hgg.out (v := .int .i64 V') rfl
  have cgg_1 := cell_of_block (i := 1) Hgg.out (v := .slice ag ms'.length cg) rfl
  have cgg_2 := cell_of_block (i := 2) Hgg.out (v := .int .i64 R') rfl
  go_wp2_with fail
  refine (c_BddVarI vars i w7 GL.out).mono ?_
  rintro e w8 ⟨vh, V2, R2, q3, ms2, rfl, hoh, hcr, hq⟩
  replace Hgw := Go.Lib.hid ((hq.block _ lgw).trans Hgw.out)
  replace lgw := Nat.lt_of_lt_of_le lgw hq.size
  replace Hgg := Go.Lib.hid ((hq.block _ lgg).trans Hgg.out)
  replace lgg := Nat.lt_of_lt_of_le lgg hq.size
  replace GL := Go.Lib.hid (GL.out.below hq)
  replace HOW := Go.Lib.hid (HOW.out.below hq)
  replace HHD := Go.Lib.hid (HHD.out.below hq)
  replace HB := Go.Lib.hid (HB.out.trans (hq.mono HB.out.size))
  clear cgw_0 cgw_1 cgw_2 cgg_0 cgg_1 cgg_2
  obtain ⟨rfl, rfl, rfl, rfl⟩ := hcr.inj (fun h => by have h1 := of_decide_eq_true h.1; omega) HCR.out
  obtain ⟨ah, ch, rfl, -⟩ := OwnN.form hoh
  have HOG := Go.Lib.hid hoh
  clear hoh hcr hq
  have cgw_0 := cell_of_block (i := 0) Hgw.out (v := .int .i64 V2) rfl
  have cgw_1 := cell_of_block (i := 1) Hgw.out (v := .slice aw ms2.length cw) rfl
  have cgw_2 := cell_of_block (i := 2) Hgw.out (v := .int .i64 R2) rfl
  have cgg_0 := cell_of_block (i := 0) Hgg.out (v := .int .i64 V2) rfl
  have cgg_1 := cell_of_block (i := 1) Hgg.out (v := .slice ag ms2.length cg) rfl
  have cgg_2 := cell_of_block (i := 2) Hgg.out (v := .int .i64 R2) rfl
  go_upto_region 14 with fail
  refine code_gen (R := fun wb => wb.heap[w8.heap.size]? = some (.cells #[.int .i64 V2, .slice ah ms2.length ch, .int .i64 R2] 24 (0, 0)) ∧ Below w8.heap.size w8 wb) ⟨by first | exact (MapKept.heap_alloc _ _).1 | exact heap_alloc_new _ _, by go_grown⟩ ?_
  rintro w9 ⟨k, hq⟩
  have lgh : w8.heap.size < w9.heap.size := (Array.getElem?_eq_some_iff.1 k).1
  replace Hgw := Go.Lib.hid ((hq.block _ lgw).trans Hgw.out)
  replace lgw := Nat.lt_of_lt_of_le lgw hq.size
  replace Hgg := Go.Lib.hid ((hq.block _ lgg).trans Hgg.out)
  replace lgg := Nat.lt_of_lt_of_le lgg hq.size
  replace GL := Go.Lib.hid (GL.out.below hq)
  replace HOW := Go.Lib.hid (HOW.out.below hq)
  replace HHD := Go.Lib.hid (HHD.out.below hq)
  replace HOG := Go.Lib.hid (HOG.out.below hq)
  replace HB := Go.Lib.hid (HB.out.trans (hq.mono HB.out.size))
  clear cgw_0 cgw_1 cgw_2 cgg_0 cgg_1 cgg_2
  obtain ⟨gh, hgh⟩ : ∃ g, w8.heap.size = g := ⟨_, rfl⟩
  rw [hgh] at k lgh ⊢
  have HEgh := Go.Lib.hid hgh
  have Hgh := Go.Lib.hid k
  clear k hq hgh
  have cgw_0 := cell_of_block (i := 0) Hgw.out (v := .int .i64 V2) rfl
  have cgw_1 := cell_of_block (i := 1) Hgw.out (v := .slice aw ms2.length cw) rfl
  have cgw_2 := cell_of_block (i := 2) Hgw.out (v := .int .i64 R2) rfl
  have cgg_0 := cell_of_block (i := 0) Hgg.out (v := .int .i64 V2) rfl
  have cgg_1 := cell_of_block (i := 1) Hgg.out (v := .slice ag ms2.length cg) rfl
  have cgg_2 := cell_of_block (i := 2) Hgg.out (v := .int .i64 R2) rfl
  have cgh_0 := cell_of_block (i := 0) Hgh.out (v := .int .i64 V2) rfl
  have cgh_1 := cell_of_block (i := 1) Hgh.out (v := .slice ah ms2.length ch) rfl
  have cgh_2 := cell_of_block (i := 2) Hgh.out (v := .int .i64 R2) rfl
  go_wp2_with fail
  refine (c_eqBdd (B := w9.heap.size) V2 R2 w9 (Nat.le_refl _) (HOG.out.bns rfl) (HOW.out.bns rfl)).mono ?_
  rintro e w10 ⟨rfl, hq⟩
  replace Hgw := Go.Lib.hid ((hq.block _ lgw).trans Hgw.out)
  replace lgw := Nat.lt_of_lt_of_le lgw hq.size
  replace Hgg := Go.Lib.hid ((hq.block _ lgg).trans Hgg.out)
  replace lgg := Nat.lt_of_lt_of_le lgg hq.size
  replace Hgh := Go.Lib.hid ((hq.block _ lgh).trans Hgh.out)
  replace lgh := Nat.lt_of_lt_of_le lgh hq.size
  replace GL := Go.Lib.hid (GL.out.below hq)
  replace HOW := Go.Lib.hid (HOW.out.below hq)
  replace HHD := Go.Lib.hid (HHD.out.below hq)
  replace HOG := Go.Lib.hid (HOG.out.below hq)
  replace HB := Go.Lib.hid (HB.out.trans (hq.mono HB.out.size))
  clear cgw_0 cgw_1 cgw_2 cgg_0 cgg_1 cgg_2 cgh_0 cgh_1 cgh_2
  clear hq
  have cgw_0 := cell_of_block (i := 0) Hgw.out (v := .int .i64 V2) rfl
  have cgw_1 := cell_of_block (i := 1) Hgw.out (v := .slice aw ms2.length cw) rfl
  have cgw_2 := cell_of_block (i := 2) Hgw.out (v := .int .i64 R2) rfl
  have cgg_0 := cell_of_block (i := 0) Hgg.out (v := .int .i64 V2) rfl
  have cgg_1 := cell_of_block (i := 1) Hgg.out (v := .slice ag ms2.length cg) rfl
  have cgg_2 := cell_of_block (i := 2) Hgg.out (v := .int .i64 R2) rfl
  have cgh_0 := cell_of_block (i := 0) Hgh.out (v := .int .i64 V2) rfl
  have cgh_1 := cell_of_block (i := 1) Hgh.out (v := .slice ah ms2.length ch) rfl
  have cgh_2 := cell_of_block (i := 2) Hgh.out (v := .int .i64 R2) rfl
  go_wp2_with fail
  refine (c_heldBddL V2 R2 hlw w10 HHD.out).mono ?_
  rintro e w11 ⟨rfl, hq⟩
  replace Hgw := Go.Lib.hid ((hq.block _ lgw).trans Hgw.out)
  replace lgw := Nat.lt_of_lt_of_le lgw hq.size
  replace Hgg := Go.Lib.hid ((hq.block _ lgg).trans Hgg.out)
  replace lgg := Nat.lt_of_lt_of_le lgg hq.size
  replace Hgh := Go.Lib.hid ((hq.block _ lgh).trans Hgh.out)
  replace lgh := Nat.lt_of_lt_of_le lgh hq.size
  replace GL := Go.Lib.hid (GL.out.below hq)
  replace HOW := Go.Lib.hid (HOW.out.below hq)
  replace HHD := Go.Lib.hid (HHD.out.below hq)
  replace HOG := Go.Lib.hid (HOG.out.below hq)
  replace HB := Go.Lib.hid (HB.out.trans (hq.mono HB.out.size))
  clear cgw_0 cgw_1 cgw_2 cgg_0 cgg_1 cgg_2 cgh_0 cgh_1 cgh_2
  clear hq
  go_wp2_with fail
  go_ret
  exact ⟨rfl, HB.out⟩
end Go.Proofs.YtpehddfnlmkicaaDoor
