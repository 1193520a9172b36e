/-
  The law of BddSome.
-/
import Derived.Test.YtpehddfnlmkicaaDoorRows
import Derived.Test.YtpehddfnlmkicaaDoorPaA
import Derived.Test.YtpehddfnlmkicaaDoorG0
import Derived.Test.YtpehddfnlmkicaaDoorBdM
import Derived.Test.YtpehddfnlmkicaaDoorBdI
import Derived.Test.YtpehddfnlmkicaaDoorBdL
import Derived.Test.YtpehddfnlmkicaaDoorBdT
import Derived.Test.YtpehddfnlmkicaaDoorBdC
import Derived.Test.YtpehddfnlmkicaaDoorBdN
import Derived.Test.YtpehddfnlmkicaaDoorBdX
import Derived.Test.YtpehddfnlmkicaaDoorBdY
import Derived.Test.YtpehddfnlmkicaaDoorFoE
import Derived.Test.YtpehddfnlmkicaaDoorFoO
import Derived.Test.YtpehddfnlmkicaaDoorFoC
import Derived.Test.YtpehddfnlmkicaaDoorFoG
import Derived.Test.YtpehddfnlmkicaaDoorFoH
import Derived.Test.YtpehddfnlmkicaaDoorLawD0
import Derived.WalkKit
import Derived.ProofKit
import Derived.OpenShut
import Derived.WalkSpells
import Derived.WalkLawsBesides
import Derived.Outline
import Derived.BigQuiet
import Derived.Handy
import Derived.LoopTactic
import Derived.Deep.Light
import Derived.Deep.RegionWith
import Derived.Deep.RegionHeld3
import Derived.Deep.DeepCutAuto
import Derived.Lib.Hide
import Derived.Maps.OwnRows
import Derived.Deep.Onto
import Derived.OneCell
import Derived.StillTailTactics
import Derived.Deep.AppendLies
import Derived.Deep.RegionLaw
namespace Go.Proofs.YtpehddfnlmkicaaDoor
open Go.ChangeShapes Go.WideShapes Go.ChangeAt Go.RowKit Go.Maps Go.ChangeMaps
set_option linter.unusedVariables false
set_option maxRecDepth 100000


set_option maxHeartbeats 16000000 in
theorem w_FnExactBddSome {vars root : Int} {a : Option Addr} {len cap : Nat} {ns : List BN} (i : Int) (W : World) (hgl : Glob W) (h : BnsAt W.heap.size W a len cap ns) :
    Calls Tryd.prog 10 #[.agg #[.int .i64 vars, .slice a len cap, .int .i64 root], .int .i64 i] W fun e w' => e = .returned (.bool true) ∧ Below W.heap.size W w' := by
  have GL := Go.Lib.hid hgl
  clear hgl
  have HN := Go.Lib.hid h
  clear h
  go_enter Tryd.func10, Tryd.ntmps10
  go_upto_region 2 with fail
  refine code_gen (R := fun wb => wb.heap[W.heap.size]? = some (.cells #[.int .i64 vars, .slice a len cap, .int .i64 root] 32 (0, 0)) ∧ Below W.heap.size W wb) ⟨by first | exact (MapKept.heap_alloc _ _).1 | exact heap_alloc_new _ _, by go_grown⟩ ?_
  rintro w1 ⟨k, hq⟩
  have lB0 : W.heap.size < w1.heap.size := (Array.getElem?_eq_some_iff.1 k).1
  replace GL := Go.Lib.hid (GL.out.below hq)
  have HB := Go.Lib.hid hq
  have HB0 := Go.Lib.hid k
  clear k hq
  have cB0_0 := cell_of_block (i := 0) HB0.out (v := .int .i64 vars) rfl
  have cB0_1 := cell_of_block (i := 1) HB0.out (v := .slice a len cap) rfl
  have cB0_2 := cell_of_block (i := 2) HB0.out (v := .int .i64 root) rfl
  go_wp2_with fail
  refine (c_szBdd (B := W.heap.size) vars root w1 HB.out.size (HN.out.below HB.out)).mono ?_
  rintro e w2 ⟨r, rfl, hr, hq⟩
  replace HB0 := Go.Lib.hid ((hq.block _ lB0).trans HB0.out)
  replace lB0 := Nat.lt_of_lt_of_le lB0 hq.size
  replace GL := Go.Lib.hid (GL.out.below hq)
  replace HB := Go.Lib.hid (HB.out.trans (hq.mono HB.out.size))
  clear cB0_0 cB0_1 cB0_2
  have HR := Go.Lib.hid hr
  clear hr hq
  by_cases hn : r < 0
  · go_wp2_with fail
    go_ret
    exact ⟨rfl, HB.out⟩
  have hlen : len ≤ 1048576 := by have := HR.out (by omega); omega
  have cB0_0 := cell_of_block (i := 0) HB0.out (v := .int .i64 vars) rfl
  have cB0_1 := cell_of_block (i := 1) HB0.out (v := .slice a len cap) rfl
  have cB0_2 := cell_of_block (i := 2) HB0.out (v := .int .i64 root) rfl
  go_wp2_with fail
  refine (c_toBdd (B := W.heap.size) vars root w2 HB.out.size (HN.out.below HB.out) hlen).mono ?_
  rintro e w3 ⟨g, rfl, hc, -, -, hq⟩
  replace HB0 := Go.Lib.hid ((hq.block _ lB0).trans HB0.out)
  replace lB0 := Nat.lt_of_lt_of_le lB0 hq.size
  replace GL := Go.Lib.hid (GL.out.below hq)
  replace HB := Go.Lib.hid (HB.out.trans (hq.mono HB.out.size))
  clear cB0_0 cB0_1 cB0_2
  have HC := Go.Lib.hid hc
  clear hc hq
  have cB0_0 := cell_of_block (i := 0) HB0.out (v := .int .i64 vars) rfl
  have cB0_1 := cell_of_block (i := 1) HB0.out (v := .slice a len cap) rfl
  have cB0_2 := cell_of_block (i := 2) HB0.out (v := .int .i64 root) rfl
  go_wp2_with fail
  refine (c_BddSomeS (B := w3.heap.size) vars root i w3 (Nat.le_refl _) HC.out).mono ?_
  rintro e w4 ⟨vw, V, R, q1, ms, rfl, how, hcr, hq⟩
  replace HB0 := Go.Lib.hid ((hq.block _ lB0).trans HB0.out)
  replace lB0 := Nat.lt_of_lt_of_le lB0 hq.size
  replace GL := Go.Lib.hid (GL.out.below hq)
  replace HB := Go.Lib.hid (HB.out.trans (hq.mono HB.out.size))
  clear cB0_0 cB0_1 cB0_2
  obtain ⟨aw, cw, rfl, -⟩ := OwnN.form how
  have HOW := Go.Lib.hid how
  have HCR := Go.Lib.hid hcr
  have HVW := Go.Lib.hid (show ∀ y, Value.ownBlock (.slice aw ms.length cw) = some y → y < w4.heap.size from fun y hy => (how.1.lt y hy).2)
  have hlw : ms.length ≤ 1048576 := by have := hcr.len; omega
  clear how hcr hq HC
  have lB0o := lB0
  have cB0_0 := cell_of_block (i := 0) HB0.out (v := .int .i64 vars) rfl
  have cB0_1 := cell_of_block (i := 1) HB0.out (v := .slice a len cap) rfl
  have cB0_2 := cell_of_block (i := 2) HB0.out (v := .int .i64 root) rfl
  go_upto_region 6 with fail
  refine code_gen (R := fun wb => wb.heap[w4.heap.size]? = some (.cells #[.int .i64 V, .slice aw ms.length cw, .int .i64 R] 24 (0, 0)) ∧ Below w4.heap.size w4 wb) ⟨by first | exact (MapKept.heap_alloc _ _).1 | exact heap_alloc_new _ _, by go_grown⟩ ?_
  rintro w5 ⟨k, hq⟩
  have lgw : w4.heap.size < w5.heap.size := (Array.getElem?_eq_some_iff.1 k).1
  replace HB0 := Go.Lib.hid ((hq.block _ lB0).trans HB0.out)
  replace lB0 := Nat.lt_of_lt_of_le lB0 hq.size
  replace GL := Go.Lib.hid (GL.out.below hq)
  replace HOW := Go.Lib.hid (HOW.out.below hq)
  replace HB := Go.Lib.hid (HB.out.trans (hq.mono HB.out.size))
  clear cB0_0 cB0_1 cB0_2
  obtain ⟨gw, hgw⟩ : ∃ g, w4.heap.size = g := ⟨_, rfl⟩
  rw [hgw] at k lgw ⊢
  have HEgw := Go.Lib.hid hgw
  have Hgw := Go.Lib.hid k
  clear k hq hgw
  have HVW2 := Go.Lib.hid (show ∀ y, Value.ownBlock (.slice aw ms.length cw) = some y → y < gw from fun y hy => by have h1 := HVW.out y hy; have h2 := HEgw.out; omega)
  clear HVW
  have hWgw : W.heap.size < gw := by rw [← HEgw.out]; exact lB0o
  have cB0_0 := cell_of_block (i := 0) HB0.out (v := .int .i64 vars) rfl
  have cB0_1 := cell_of_block (i := 1) HB0.out (v := .slice a len cap) rfl
  have cB0_2 := cell_of_block (i := 2) HB0.out (v := .int .i64 root) rfl
  have cgw_0 := cell_of_block (i := 0) Hgw.out (v := .int .i64 V) rfl
  have cgw_1 := cell_of_block (i := 1) Hgw.out (v := .slice aw ms.length cw) rfl
  have cgw_2 := cell_of_block (i := 2) Hgw.out (v := .int .i64 R) rfl
  have lgwo := lgw
  go_wp2_with fail
  refine (c_toBdd (B := W.heap.size) vars root w5 HB.out.size (HN.out.below HB.out) hlen).mono ?_
  rintro e w6 ⟨g, rfl, hc, hrm, hg, hq⟩
  replace HB0 := Go.Lib.hid ((hq.block _ lB0).trans HB0.out)
  replace lB0 := Nat.lt_of_lt_of_le lB0 hq.size
  replace Hgw := Go.Lib.hid ((hq.block _ lgw).trans Hgw.out)
  replace lgw := Nat.lt_of_lt_of_le lgw hq.size
  replace GL := Go.Lib.hid (GL.out.below hq)
  replace HOW := Go.Lib.hid (HOW.out.below hq)
  replace HB := Go.Lib.hid (HB.out.trans (hq.mono HB.out.size))
  clear cB0_0 cB0_1 cB0_2 cgw_0 cgw_1 cgw_2
  have HC := Go.Lib.hid hc
  have HRM := Go.Lib.hid hrm
  have hgwg : gw < g := Nat.lt_of_lt_of_le lgwo hg
  have hgl : g < w6.heap.size := hrm.1
  clear hc hrm hg hq
  have cB0_0 := cell_of_block (i := 0) HB0.out (v := .int .i64 vars) rfl
  have cB0_1 := cell_of_block (i := 1) HB0.out (v := .slice a len cap) rfl
  have cB0_2 := cell_of_block (i := 2) HB0.out (v := .int .i64 root) rfl
  have cgw_0 := cell_of_block (i := 0) Hgw.out (v := .int .i64 V) rfl
  have cgw_1 := cell_of_block (i := 1) Hgw.out (v := .slice aw ms.length cw) rfl
  have cgw_2 := cell_of_block (i := 2) Hgw.out (v := .int .i64 R) rfl
  go_upto_region 7 with fail
  refine code_gen (R := fun wb => wb.heap[w6.heap.size]? = some (.cells #[.int .i64 vars, .slice (some ⟨g, 0, none⟩) len len, .int .i64 root] 24 (0, 0)) ∧ Below w6.heap.size w6 wb) ⟨by first | exact (MapKept.heap_alloc _ _).1 | exact heap_alloc_new _ _, by go_grown⟩ ?_
  rintro w7 ⟨k, hq⟩
  have lgx : w6.heap.size < w7.heap.size := (Array.getElem?_eq_some_iff.1 k).1
  replace HB0 := Go.Lib.hid ((hq.block _ lB0).trans HB0.out)
  replace lB0 := Nat.lt_of_lt_of_le lB0 hq.size
  replace Hgw := Go.Lib.hid ((hq.block _ lgw).trans Hgw.out)
  replace lgw := Nat.lt_of_lt_of_le lgw hq.size
  replace GL := Go.Lib.hid (GL.out.below hq)
  replace HOW := Go.Lib.hid (HOW.out.below hq)
  replace HC := Go.Lib.hid ((HC.out.below hq).mono hq.size)
  replace HRM := Go.Lib.hid (HRM.out.below hq)
  replace HB := Go.Lib.hid (HB.out.trans (hq.mono HB.out.size))
  clear cB0_0 cB0_1 cB0_2 cgw_0 cgw_1 cgw_2
  obtain ⟨gx, hgx⟩ : ∃ g, w6.heap.size = g := ⟨_, rfl⟩
  rw [hgx] at k lgx ⊢
  have HEgx := Go.Lib.hid hgx
  have Hgx := Go.Lib.hid k
  clear k hq hgx
  have hgx : g < gx := by rw [← HEgx.out]; exact hgl
  have hx5 : gx < w7.heap.size := lgx
  have cB0_0 := cell_of_block (i := 0) HB0.out (v := .int .i64 vars) rfl
  have cB0_1 := cell_of_block (i := 1) HB0.out (v := .slice a len cap) rfl
  have cB0_2 := cell_of_block (i := 2) HB0.out (v := .int .i64 root) rfl
  have cgw_0 := cell_of_block (i := 0) Hgw.out (v := .int .i64 V) rfl
  have cgw_1 := cell_of_block (i := 1) Hgw.out (v := .slice aw ms.length cw) rfl
  have cgw_2 := cell_of_block (i := 2) Hgw.out (v := .int .i64 R) rfl
  have cgx_0 := cell_of_block (i := 0) Hgx.out (v := .int .i64 vars) rfl
  have cgx_1 := cell_of_block (i := 1) Hgx.out (v := .slice (some ⟨g, 0, none⟩) len len) rfl
  have cgx_2 := cell_of_block (i := 2) Hgx.out (v := .int .i64 root) rfl
  go_wp2_with fail
  refine (c_BddSomeI (B := w7.heap.size) vars root i w7 GL.out (Nat.le_refl _) HC.out).mono ?_
  rintro e w8 ⟨vg, V', R', q2, ms', rfl, hog, hcr, hq⟩
  replace HB0 := Go.Lib.hid ((hq.block _ lB0).trans HB0.out)
  replace lB0 := Nat.lt_of_lt_of_le lB0 hq.size
  replace Hgw := Go.Lib.hid ((hq.block _ lgw).trans Hgw.out)
  replace lgw := Nat.lt_of_lt_of_le lgw hq.size
  replace Hgx := Go.Lib.hid ((hq.block _ lgx).trans Hgx.out)
  replace lgx := Nat.lt_of_lt_of_le lgx hq.size
  replace GL := Go.Lib.hid (GL.out.below hq)
  replace HOW := Go.Lib.hid (HOW.out.below hq)
  replace HC := Go.Lib.hid ((HC.out.below hq).mono hq.size)
  replace HRM := Go.Lib.hid (HRM.out.below hq)
  replace HB := Go.Lib.hid (HB.out.trans (hq.mono HB.out.size))
  clear cB0_0 cB0_1 cB0_2 cgw_0 cgw_1 cgw_2 cgx_0 cgx_1 cgx_2
  obtain ⟨rfl, rfl, rfl, rfl⟩ := hcr.inj (fun h => by have h1 := h.1.hv; omega) HCR.out
  obtain ⟨ag, cg, rfl, hfm⟩ := OwnN.form hog
  have HOG := Go.Lib.hid hog
  have HRG := Go.Lib.hid (ownBS_of hfm)
  have HGB := Go.Lib.hid (ownB_at hfm)
  have hs6 := hq.size
  clear hog hcr hfm hq
  have cB0_0 := cell_of_block (i := 0) HB0.out (v := .int .i64 vars) rfl
  have cB0_1 := cell_of_block (i := 1) HB0.out (v := .slice a len cap) rfl
  have cB0_2 := cell_of_block (i := 2) HB0.out (v := .int .i64 root) rfl
  have cgw_0 := cell_of_block (i := 0) Hgw.out (v := .int .i64 V') rfl
  have cgw_1 := cell_of_block (i := 1) Hgw.out (v := .slice aw ms'.length cw) rfl
  have cgw_2 := cell_of_block (i := 2) Hgw.out (v := .int .i64 R') rfl
  have cgx_0 := cell_of_block (i := 0) Hgx.out (v := .int .i64 vars) rfl
  have cgx_1 := cell_of_block (i := 1) Hgx.out (v := .slice (some ⟨g, 0, none⟩) len len) rfl
  have cgx_2 := cell_of_block (i := 2) Hgx.out (v := .int .i64 root) rfl
  go_upto_region 8 with fail
  refine code_gen (R := fun wb => wb.heap[w8.heap.size]? = some (.cells #[.int .i64 V', .slice ag ms'.length cg, .int .i64 R'] 24 (0, 0)) ∧ Below w8.heap.size w8 wb) ⟨by first | exact (MapKept.heap_alloc _ _).1 | exact heap_alloc_new _ _, by go_grown⟩ ?_
  rintro w9 ⟨k, hq⟩
  have lgg : w8.heap.size < w9.heap.size := (Array.getElem?_eq_some_iff.1 k).1
  replace HB0 := Go.Lib.hid ((hq.block _ lB0).trans HB0.out)
  replace lB0 := Nat.lt_of_lt_of_le lB0 hq.size
  replace Hgw := Go.Lib.hid ((hq.block _ lgw).trans Hgw.out)
  replace lgw := Nat.lt_of_lt_of_le lgw hq.size
  replace Hgx := Go.Lib.hid ((hq.block _ lgx).trans Hgx.out)
  replace lgx := Nat.lt_of_lt_of_le lgx hq.size
  replace GL := Go.Lib.hid (GL.out.below hq)
  replace HOW := Go.Lib.hid (HOW.out.below hq)
  replace HC := Go.Lib.hid ((HC.out.below hq).mono hq.size)
  replace HRM := Go.Lib.hid (HRM.out.below hq)
  replace HOG := Go.Lib.hid (HOG.out.below hq)
  replace HRG := Go.Lib.hid (HRG.out.below hq)
  replace HB := Go.Lib.hid (HB.out.trans (hq.mono HB.out.size))
  clear cB0_0 cB0_1 cB0_2 cgw_0 cgw_1 cgw_2 cgx_0 cgx_1 cgx_2
  obtain ⟨gg, hgg⟩ : ∃ g, w8.heap.size = g := ⟨_, rfl⟩
  rw [hgg] at k lgg ⊢
  have HEgg := Go.Lib.hid hgg
  have Hgg := Go.Lib.hid k
  clear k hq hgg
  have HGC := Go.Lib.hid (show ∀ b, ag = some ⟨b, 0, none⟩ → w7.heap.size ≤ b ∧ b < gg from fun b hb => ⟨(HGB.out b hb).1, by have h1 := (HGB.out b hb).2; have h2 := HEgg.out; omega⟩)
  have hgg : w7.heap.size ≤ gg := by have h2 := HEgg.out; omega
  clear HGB
  have cB0_0 := cell_of_block (i := 0) HB0.out (v := .int .i64 vars) rfl
  have cB0_1 := cell_of_block (i := 1) HB0.out (v := .slice a len cap) rfl
  have cB0_2 := cell_of_block (i := 2) HB0.out (v := .int .i64 root) rfl
  have cgw_0 := cell_of_block (i := 0) Hgw.out (v := .int .i64 V') rfl
  have cgw_1 := cell_of_block (i := 1) Hgw.out (v := .slice aw ms'.length cw) rfl
  have cgw_2 := cell_of_block (i := 2) Hgw.out (v := .int .i64 R') rfl
  have cgx_0 := cell_of_block (i := 0) Hgx.out (v := .int .i64 vars) rfl
  have cgx_1 := cell_of_block (i := 1) Hgx.out (v := .slice (some ⟨g, 0, none⟩) len len) rfl
  have cgx_2 := cell_of_block (i := 2) Hgx.out (v := .int .i64 root) rfl
  have cgg_0 := cell_of_block (i := 0) Hgg.out (v := .int .i64 V') rfl
  have cgg_1 := cell_of_block (i := 1) Hgg.out (v := .slice ag ms'.length cg) rfl
  have cgg_2 := cell_of_block (i := 2) Hgg.out (v := .int .i64 R') rfl
  go_wp2_with fail
  refine (c_eqBdd (B := w9.heap.size) V' R' w9 (Nat.le_refl _) (HOG.out.bns rfl) (HOW.out.bns rfl)).mono ?_
  rintro e w10 ⟨rfl, hq⟩
  replace HB0 := Go.Lib.hid ((hq.block _ lB0).trans HB0.out)
  replace lB0 := Nat.lt_of_lt_of_le lB0 hq.size
  replace Hgw := Go.Lib.hid ((hq.block _ lgw).trans Hgw.out)
  replace lgw := Nat.lt_of_lt_of_le lgw hq.size
  replace Hgx := Go.Lib.hid ((hq.block _ lgx).trans Hgx.out)
  replace lgx := Nat.lt_of_lt_of_le lgx hq.size
  replace Hgg := Go.Lib.hid ((hq.block _ lgg).trans Hgg.out)
  replace lgg := Nat.lt_of_lt_of_le lgg hq.size
  replace GL := Go.Lib.hid (GL.out.below hq)
  replace HOW := Go.Lib.hid (HOW.out.below hq)
  replace HC := Go.Lib.hid ((HC.out.below hq).mono hq.size)
  replace HRM := Go.Lib.hid (HRM.out.below hq)
  replace HOG := Go.Lib.hid (HOG.out.below hq)
  replace HRG := Go.Lib.hid (HRG.out.below hq)
  replace HB := Go.Lib.hid (HB.out.trans (hq.mono HB.out.size))
  clear cB0_0 cB0_1 cB0_2 cgw_0 cgw_1 cgw_2 cgx_0 cgx_1 cgx_2 cgg_0 cgg_1 cgg_2
  clear hq
  have cB0_0 := cell_of_block (i := 0) HB0.out (v := .int .i64 vars) rfl
  have cB0_1 := cell_of_block (i := 1) HB0.out (v := .slice a len cap) rfl
  have cB0_2 := cell_of_block (i := 2) HB0.out (v := .int .i64 root) rfl
  have cgw_0 := cell_of_block (i := 0) Hgw.out (v := .int .i64 V') rfl
  have cgw_1 := cell_of_block (i := 1) Hgw.out (v := .slice aw ms'.length cw) rfl
  have cgw_2 := cell_of_block (i := 2) Hgw.out (v := .int .i64 R') rfl
  have cgx_0 := cell_of_block (i := 0) Hgx.out (v := .int .i64 vars) rfl
  have cgx_1 := cell_of_block (i := 1) Hgx.out (v := .slice (some ⟨g, 0, none⟩) len len) rfl
  have cgx_2 := cell_of_block (i := 2) Hgx.out (v := .int .i64 root) rfl
  have cgg_0 := cell_of_block (i := 0) Hgg.out (v := .int .i64 V') rfl
  have cgg_1 := cell_of_block (i := 1) Hgg.out (v := .slice ag ms'.length cg) rfl
  have cgg_2 := cell_of_block (i := 2) Hgg.out (v := .int .i64 R') rfl
  go_upto_region 10 with fail
  refine wp_region_held_drew (S := (fun w' => w'.cell? ⟨W.heap.size, 0, none⟩ = some (.int .i64 vars) ∧ w'.cell? ⟨W.heap.size, 1, none⟩ = some (.slice a len cap) ∧ w'.cell? ⟨W.heap.size, 2, none⟩ = some (.int .i64 root) ∧ w'.cell? ⟨gx, 0, none⟩ = some (.int .i64 vars) ∧ w'.cell? ⟨gx, 1, none⟩ = some (.slice (some ⟨g, 0, none⟩) len len) ∧ w'.cell? ⟨gx, 2, none⟩ = some (.int .i64 root))) (by kernel_rfl) ?_ (fun hHeld => ?_)
  · first | exact ⟨cB0_0, cB0_1, cB0_2, cgx_0, cgx_1, cgx_2⟩ | exact ⟨keepc HQ8.out lB0 cB0_0, keepc HQ8.out lB0 cB0_1, keepc HQ8.out lB0 cB0_2, keepc HQ8.out lgx cgx_0, keepc HQ8.out lgx cgx_1, keepc HQ8.out lgx cgx_2⟩ | exact ⟨keepc HQ7.out lB0 cB0_0, keepc HQ7.out lB0 cB0_1, keepc HQ7.out lB0 cB0_2, keepc HQ7.out lgx cgx_0, keepc HQ7.out lgx cgx_1, keepc HQ7.out lgx cgx_2⟩
  refine tL 0 (some 45) ?_
  refine tL 1 (some 46) ?_
  refine wpAnyH_ready (rs := [2]) (by kernel_rfl) (by simp) ?_
  refine AllReadyH.cons (o := _) rfl (fun K hK => ?_) AllReadyH.nil
  go_simp
  refine (c_toBdd (B := W.heap.size) vars root w10.drew HB.out.size ((HN.out.below HB.out).below (Below.refl _ w10).drew) hlen).mono ?_
  rintro e wt ⟨h, rfl, hd, -, -, hq⟩
  have HD := Go.Lib.hid hd
  have HQ7 := Go.Lib.hid (show Below w10.heap.size w10 wt from ⟨hq.os, hq.tape, hq.output, hq.size, hq.block⟩)
  clear hd hq
  (try go_wp2_with fail)
  (try clear hHeld)
  refine hK.out _ _ ?_ (fun hHeld => ?_)
  · first | exact ⟨cB0_0, cB0_1, cB0_2, cgx_0, cgx_1, cgx_2⟩ | exact ⟨keepc HQ8.out lB0 cB0_0, keepc HQ8.out lB0 cB0_1, keepc HQ8.out lB0 cB0_2, keepc HQ8.out lgx cgx_0, keepc HQ8.out lgx cgx_1, keepc HQ8.out lgx cgx_2⟩ | exact ⟨keepc HQ7.out lB0 cB0_0, keepc HQ7.out lB0 cB0_1, keepc HQ7.out lB0 cB0_2, keepc HQ7.out lgx cgx_0, keepc HQ7.out lgx cgx_1, keepc HQ7.out lgx cgx_2⟩
  clear hK K
  (try simp only [Act.put, List.setIfInBounds_toArray, List.set_cons_zero, List.set_cons_succ])
  refine wpAnyH_ready (rs := [3]) (by kernel_rfl) (by simp) ?_
  refine AllReadyH.cons (o := _) rfl (fun K hK => ?_) AllReadyH.nil
  go_simp
  refine (c_eqBdd (B := wt.heap.size) vars root wt (Nat.le_refl _) ((HC.out.below HQ7.out).mono HQ7.out.size) HD.out).mono ?_
  rintro e we ⟨rfl, hq⟩
  have HQ8 := Go.Lib.hid (HQ7.out.trans (hq.mono HQ7.out.size))
  clear hq
  (try go_wp2_with fail)
  (try clear hHeld)
  refine hK.out _ _ ?_ (fun hHeld => ?_)
  · first | exact ⟨cB0_0, cB0_1, cB0_2, cgx_0, cgx_1, cgx_2⟩ | exact ⟨keepc HQ8.out lB0 cB0_0, keepc HQ8.out lB0 cB0_1, keepc HQ8.out lB0 cB0_2, keepc HQ8.out lgx cgx_0, keepc HQ8.out lgx cgx_1, keepc HQ8.out lgx cgx_2⟩ | exact ⟨keepc HQ7.out lB0 cB0_0, keepc HQ7.out lB0 cB0_1, keepc HQ7.out lB0 cB0_2, keepc HQ7.out lgx cgx_0, keepc HQ7.out lgx cgx_1, keepc HQ7.out lgx cgx_2⟩
  clear hK K
  (try simp only [Act.put, List.setIfInBounds_toArray, List.set_cons_zero, List.set_cons_succ])
  refine tL 4 (some 49) ?_
  refine wpAnyH_done (by kernel_rfl) ?_ _
  clear hHeld
  go_upto_region 13 with fail
  refine code_gen (R := fun wb => Below w10.heap.size w10 wb) (by first | exact HQ8.out | exact HQ8.out.drew | go_grown) ?_
  clear HQ7 HQ8 HD
  rintro w11 hq
  replace HB0 := Go.Lib.hid ((hq.block _ lB0).trans HB0.out)
  replace lB0 := Nat.lt_of_lt_of_le lB0 hq.size
  replace Hgw := Go.Lib.hid ((hq.block _ lgw).trans Hgw.out)
  replace lgw := Nat.lt_of_lt_of_le lgw hq.size
  replace Hgx := Go.Lib.hid ((hq.block _ lgx).trans Hgx.out)
  replace lgx := Nat.lt_of_lt_of_le lgx hq.size
  replace Hgg := Go.Lib.hid ((hq.block _ lgg).trans Hgg.out)
  replace lgg := Nat.lt_of_lt_of_le lgg hq.size
  replace GL := Go.Lib.hid (GL.out.below hq)
  replace HOW := Go.Lib.hid (HOW.out.below hq)
  replace HC := Go.Lib.hid ((HC.out.below hq).mono hq.size)
  replace HRM := Go.Lib.hid (HRM.out.below hq)
  replace HOG := Go.Lib.hid (HOG.out.below hq)
  replace HRG := Go.Lib.hid (HRG.out.below hq)
  replace HB := Go.Lib.hid (HB.out.trans (hq.mono HB.out.size))
  clear cB0_0 cB0_1 cB0_2 cgw_0 cgw_1 cgw_2 cgx_0 cgx_1 cgx_2 cgg_0 cgg_1 cgg_2
  clear hq
  clear HC
  have cB0_0 := cell_of_block (i := 0) HB0.out (v := .int .i64 vars) rfl
  have cB0_1 := cell_of_block (i := 1) HB0.out (v := .slice a len cap) rfl
  have cB0_2 := cell_of_block (i := 2) HB0.out (v := .int .i64 root) rfl
  have cgw_0 := cell_of_block (i := 0) Hgw.out (v := .int .i64 V') rfl
  have cgw_1 := cell_of_block (i := 1) Hgw.out (v := .slice aw ms'.length cw) rfl
  have cgw_2 := cell_of_block (i := 2) Hgw.out (v := .int .i64 R') rfl
  have cgx_0 := cell_of_block (i := 0) Hgx.out (v := .int .i64 vars) rfl
  have cgx_1 := cell_of_block (i := 1) Hgx.out (v := .slice (some ⟨g, 0, none⟩) len len) rfl
  have cgx_2 := cell_of_block (i := 2) Hgx.out (v := .int .i64 root) rfl
  have cgg_0 := cell_of_block (i := 0) Hgg.out (v := .int .i64 V') rfl
  have cgg_1 := cell_of_block (i := 1) Hgg.out (v := .slice ag ms'.length cg) rfl
  have cgg_2 := cell_of_block (i := 2) Hgg.out (v := .int .i64 R') rfl
  go_wp2_with fail
  refine (c_markBdd (T := fun b => b = g) rfl vars root 1 (by omega) (by omega) hlen w11 HRM.out).mono ?_
  rintro e w12 ⟨rfl, ht, -, -⟩
  replace HB0 := Go.Lib.hid ((ht.block _ lB0 (fun e => by have e1 : W.heap.size = g := e; omega)).trans HB0.out)
  replace lB0 := Nat.lt_of_lt_of_le lB0 ht.size
  replace Hgw := Go.Lib.hid ((ht.block _ lgw (fun e => by have e1 : gw = g := e; omega)).trans Hgw.out)
  replace lgw := Nat.lt_of_lt_of_le lgw ht.size
  replace Hgx := Go.Lib.hid ((ht.block _ lgx (fun e => by have e1 : gx = g := e; omega)).trans Hgx.out)
  replace lgx := Nat.lt_of_lt_of_le lgx ht.size
  replace Hgg := Go.Lib.hid ((ht.block _ lgg (fun e => by have e1 : gg = g := e; omega)).trans Hgg.out)
  replace lgg := Nat.lt_of_lt_of_le lgg ht.size
  replace GL := Go.Lib.hid (GL.out.touch ht (fun e => by have e1 : 0 = g := e; omega))
  replace HOW := Go.Lib.hid (HOW.out.touch ht (fun y _ _ hy e => by have e1 : y = g := e; have := HVW2.out y hy; omega))
  replace HOG := Go.Lib.hid (HOG.out.touch ht (fun y hy _ hy2 e => by have e1 : y = g := e; omega))
  replace HRG := Go.Lib.hid (HRG.out.touch ht)
  replace HB := Go.Lib.hid (HB.out.trans (ht.belowAt (B := W.heap.size) HB.out.size (fun b hb => by have e1 : b = g := hb; omega)))
  clear cB0_0 cB0_1 cB0_2 cgw_0 cgw_1 cgw_2 cgx_0 cgx_1 cgx_2 cgg_0 cgg_1 cgg_2
  clear ht HRM
  have hq9 : ¬ (1 + 3 * (len : Int)) < 0 := by omega
  have cB0_0 := cell_of_block (i := 0) HB0.out (v := .int .i64 vars) rfl
  have cB0_1 := cell_of_block (i := 1) HB0.out (v := .slice a len cap) rfl
  have cB0_2 := cell_of_block (i := 2) HB0.out (v := .int .i64 root) rfl
  have cgw_0 := cell_of_block (i := 0) Hgw.out (v := .int .i64 V') rfl
  have cgw_1 := cell_of_block (i := 1) Hgw.out (v := .slice aw ms'.length cw) rfl
  have cgw_2 := cell_of_block (i := 2) Hgw.out (v := .int .i64 R') rfl
  have cgx_0 := cell_of_block (i := 0) Hgx.out (v := .int .i64 vars) rfl
  have cgx_1 := cell_of_block (i := 1) Hgx.out (v := .slice (some ⟨g, 0, none⟩) len len) rfl
  have cgx_2 := cell_of_block (i := 2) Hgx.out (v := .int .i64 root) rfl
  have cgg_0 := cell_of_block (i := 0) Hgg.out (v := .int .i64 V') rfl
  have cgg_1 := cell_of_block (i := 1) Hgg.out (v := .slice ag ms'.length cg) rfl
  have cgg_2 := cell_of_block (i := 2) Hgg.out (v := .int .i64 R') rfl
  go_wp2_with fail
  refine (c_eqBdd (B := w12.heap.size) V' R' w12 (Nat.le_refl _) (HOG.out.bns rfl) (HOW.out.bns rfl)).mono ?_
  rintro e w13 ⟨rfl, hq⟩
  replace HB0 := Go.Lib.hid ((hq.block _ lB0).trans HB0.out)
  replace lB0 := Nat.lt_of_lt_of_le lB0 hq.size
  replace Hgw := Go.Lib.hid ((hq.block _ lgw).trans Hgw.out)
  replace lgw := Nat.lt_of_lt_of_le lgw hq.size
  replace Hgx := Go.Lib.hid ((hq.block _ lgx).trans Hgx.out)
  replace lgx := Nat.lt_of_lt_of_le lgx hq.size
  replace Hgg := Go.Lib.hid ((hq.block _ lgg).trans Hgg.out)
  replace lgg := Nat.lt_of_lt_of_le lgg hq.size
  replace GL := Go.Lib.hid (GL.out.below hq)
  replace HOW := Go.Lib.hid (HOW.out.below hq)
  replace HOG := Go.Lib.hid (HOG.out.below hq)
  replace HRG := Go.Lib.hid (HRG.out.below hq)
  replace HB := Go.Lib.hid (HB.out.trans (hq.mono HB.out.size))
  clear cB0_0 cB0_1 cB0_2 cgw_0 cgw_1 cgw_2 cgx_0 cgx_1 cgx_2 cgg_0 cgg_1 cgg_2
  clear hq
  clear HOG
  have cB0_0 := cell_of_block (i := 0) HB0.out (v := .int .i64 vars) rfl
  have cB0_1 := cell_of_block (i := 1) HB0.out (v := .slice a len cap) rfl
  have cB0_2 := cell_of_block (i := 2) HB0.out (v := .int .i64 root) rfl
  have cgw_0 := cell_of_block (i := 0) Hgw.out (v := .int .i64 V') rfl
  have cgw_1 := cell_of_block (i := 1) Hgw.out (v := .slice aw ms'.length cw) rfl
  have cgw_2 := cell_of_block (i := 2) Hgw.out (v := .int .i64 R') rfl
  have cgx_0 := cell_of_block (i := 0) Hgx.out (v := .int .i64 vars) rfl
  have cgx_1 := cell_of_block (i := 1) Hgx.out (v := .slice (some ⟨g, 0, none⟩) len len) rfl
  have cgx_2 := cell_of_block (i := 2) Hgx.out (v := .int .i64 root) rfl
  have cgg_0 := cell_of_block (i := 0) Hgg.out (v := .int .i64 V') rfl
  have cgg_1 := cell_of_block (i := 1) Hgg.out (v := .slice ag ms'.length cg) rfl
  have cgg_2 := cell_of_block (i := 2) Hgg.out (v := .int .i64 R') rfl
  go_wp2_with fail
  refine (c_markBddL (T := fun b => ag = some ⟨b, 0, none⟩) V' R' hlw w13 HRG.out).mono ?_
  rintro e w14 ⟨rfl, ht, hhd⟩
  replace HB0 := Go.Lib.hid ((ht.block _ lB0 (fun e => by have h1 := HGC.out W.heap.size e; omega)).trans HB0.out)
  replace lB0 := Nat.lt_of_lt_of_le lB0 ht.size
  replace Hgw := Go.Lib.hid ((ht.block _ lgw (fun e => by have h1 := HGC.out gw e; omega)).trans Hgw.out)
  replace lgw := Nat.lt_of_lt_of_le lgw ht.size
  replace Hgx := Go.Lib.hid ((ht.block _ lgx (fun e => by have h1 := HGC.out gx e; omega)).trans Hgx.out)
  replace lgx := Nat.lt_of_lt_of_le lgx ht.size
  replace Hgg := Go.Lib.hid ((ht.block _ lgg (fun e => by have h1 := HGC.out gg e; omega)).trans Hgg.out)
  replace lgg := Nat.lt_of_lt_of_le lgg ht.size
  replace GL := Go.Lib.hid (GL.out.touch ht (fun e => by have h1 := (HGC.out 0 e).1; omega))
  replace HOW := Go.Lib.hid (HOW.out.touch ht (fun y _ _ hy e => by have h1 := (HGC.out y e).1; have h2 := HVW2.out y hy; omega))
  replace HB := Go.Lib.hid (HB.out.trans (ht.belowAt (B := W.heap.size) HB.out.size (fun b hb => by have h1 := (HGC.out b hb).1; omega)))
  clear cB0_0 cB0_1 cB0_2 cgw_0 cgw_1 cgw_2 cgx_0 cgx_1 cgx_2 cgg_0 cgg_1 cgg_2
  have HHD := Go.Lib.hid hhd
  clear ht hhd HRG
  have hp1 : ¬ (1 + 3 * (ms'.length : Int)) < 0 := by omega
  have cB0_0 := cell_of_block (i := 0) HB0.out (v := .int .i64 vars) rfl
  have cB0_1 := cell_of_block (i := 1) HB0.out (v := .slice a len cap) rfl
  have cB0_2 := cell_of_block (i := 2) HB0.out (v := .int .i64 root) rfl
  have cgw_0 := cell_of_block (i := 0) Hgw.out (v := .int .i64 V') rfl
  have cgw_1 := cell_of_block (i := 1) Hgw.out (v := .slice aw ms'.length cw) rfl
  have cgw_2 := cell_of_block (i := 2) Hgw.out (v := .int .i64 R') rfl
  have cgx_0 := cell_of_block (i := 0) Hgx.out (v := .int .i64 vars) rfl
  have cgx_1 := cell_of_block (i := 1) Hgx.out (v := .slice (some ⟨g, 0, none⟩) len len) rfl
  have cgx_2 := cell_of_block (i := 2) Hgx.out (v := .int .i64 root) rfl
  have cgg_0 := cell_of_block (i := 0) Hgg.out (v := .int .i64 V') rfl
  have cgg_1 := cell_of_block (i := 1) Hgg.out (v := .slice ag ms'.length cg) rfl
  have cgg_2 := cell_of_block (i := 2) Hgg.out (v := .int .i64 R') rfl
  go_wp2_with fail
  refine (c_heldBddL V' R' hlw w14 HHD.out).mono ?_
  rintro e w15 ⟨rfl, hq⟩
  replace HB0 := Go.Lib.hid ((hq.block _ lB0).trans HB0.out)
  replace lB0 := Nat.lt_of_lt_of_le lB0 hq.size
  replace Hgw := Go.Lib.hid ((hq.block _ lgw).trans Hgw.out)
  replace lgw := Nat.lt_of_lt_of_le lgw hq.size
  replace Hgx := Go.Lib.hid ((hq.block _ lgx).trans Hgx.out)
  replace lgx := Nat.lt_of_lt_of_le lgx hq.size
  replace Hgg := Go.Lib.hid ((hq.block _ lgg).trans Hgg.out)
  replace lgg := Nat.lt_of_lt_of_le lgg hq.size
  replace GL := Go.Lib.hid (GL.out.below hq)
  replace HOW := Go.Lib.hid (HOW.out.below hq)
  replace HHD := Go.Lib.hid (HHD.out.below hq)
  replace HB := Go.Lib.hid (HB.out.trans (hq.mono HB.out.size))
  clear cB0_0 cB0_1 cB0_2 cgw_0 cgw_1 cgw_2 cgx_0 cgx_1 cgx_2 cgg_0 cgg_1 cgg_2
  clear hq
  have cB0_0 := cell_of_block (i := 0) HB0.out (v := .int .i64 vars) rfl
  have cB0_1 := cell_of_block (i := 1) HB0.out (v := .slice a len cap) rfl
  have cB0_2 := cell_of_block (i := 2) HB0.out (v := .int .i64 root) rfl
  have cgw_0 := cell_of_block (i := 0) Hgw.out (v := .int .i64 V') rfl
  have cgw_1 := cell_of_block (i := 1) Hgw.out (v := .slice aw ms'.length cw) rfl
  have cgw_2 := cell_of_block (i := 2) Hgw.out (v := .int .i64 R') rfl
  have cgx_0 := cell_of_block (i := 0) Hgx.out (v := .int .i64 vars) rfl
  have cgx_1 := cell_of_block (i := 1) Hgx.out (v := .slice (some ⟨g, 0, none⟩) len len) rfl
  have cgx_2 := cell_of_block (i := 2) Hgx.out (v := .int .i64 root) rfl
  have cgg_0 := cell_of_block (i := 0) Hgg.out (v := .int .i64 V') rfl
  have cgg_1 := cell_of_block (i := 1) Hgg.out (v := .slice ag ms'.length cg) rfl
  have cgg_2 := cell_of_block (i := 2) Hgg.out (v := .int .i64 R') rfl
  go_wp2_with fail
  refine (c_toBdd (B := W.heap.size) vars root w15 HB.out.size (HN.out.below HB.out) hlen).mono ?_
  rintro e w16 ⟨g2, rfl, hc, -, -, hq⟩
  replace HB0 := Go.Lib.hid ((hq.block _ lB0).trans HB0.out)
  replace lB0 := Nat.lt_of_lt_of_le lB0 hq.size
  replace Hgw := Go.Lib.hid ((hq.block _ lgw).trans Hgw.out)
  replace lgw := Nat.lt_of_lt_of_le lgw hq.size
  replace Hgx := Go.Lib.hid ((hq.block _ lgx).trans Hgx.out)
  replace lgx := Nat.lt_of_lt_of_le lgx hq.size
  replace Hgg := Go.Lib.hid ((hq.block _ lgg).trans Hgg.out)
  replace lgg := Nat.lt_of_lt_of_le lgg hq.size
  replace GL := Go.Lib.hid (GL.out.below hq)
  replace HOW := Go.Lib.hid (HOW.out.below hq)
  replace HHD := Go.Lib.hid (HHD.out.below hq)
  replace HB := Go.Lib.hid (HB.out.trans (hq.mono HB.out.size))
  clear cB0_0 cB0_1 cB0_2 cgw_0 cgw_1 cgw_2 cgx_0 cgx_1 cgx_2 cgg_0 cgg_1 cgg_2
  have HC := Go.Lib.hid hc
  clear hc hq
  have cB0_0 := cell_of_block (i := 0) HB0.out (v := .int .i64 vars) rfl
  have cB0_1 := cell_of_block (i := 1) HB0.out (v := .slice a len cap) rfl
  have cB0_2 := cell_of_block (i := 2) HB0.out (v := .int .i64 root) rfl
  have cgw_0 := cell_of_block (i := 0) Hgw.out (v := .int .i64 V') rfl
  have cgw_1 := cell_of_block (i := 1) Hgw.out (v := .slice aw ms'.length cw) rfl
  have cgw_2 := cell_of_block (i := 2) Hgw.out (v := .int .i64 R') rfl
  have cgx_0 := cell_of_block (i := 0) Hgx.out (v := .int .i64 vars) rfl
  have cgx_1 := cell_of_block (i := 1) Hgx.out (v := .slice (some ⟨g, 0, none⟩) len len) rfl
  have cgx_2 := cell_of_block (i := 2) Hgx.out (v := .int .i64 root) rfl
  have cgg_0 := cell_of_block (i := 0) Hgg.out (v := .int .i64 V') rfl
  have cgg_1 := cell_of_block (i := 1) Hgg.out (v := .slice ag ms'.length cg) rfl
  have cgg_2 := cell_of_block (i := 2) Hgg.out (v := .int .i64 R') rfl
  go_wp2_with fail
  refine (c_BddSomeI (B := w16.heap.size) vars root i w16 GL.out (Nat.le_refl _) HC.out).mono ?_
  rintro e w17 ⟨vh, V2, R2, q3, ms2, rfl, hoh, hcr, hq⟩
  replace HB0 := Go.Lib.hid ((hq.block _ lB0).trans HB0.out)
  replace lB0 := Nat.lt_of_lt_of_le lB0 hq.size
  replace Hgw := Go.Lib.hid ((hq.block _ lgw).trans Hgw.out)
  replace lgw := Nat.lt_of_lt_of_le lgw hq.size
  replace Hgx := Go.Lib.hid ((hq.block _ lgx).trans Hgx.out)
  replace lgx := Nat.lt_of_lt_of_le lgx hq.size
  replace Hgg := Go.Lib.hid ((hq.block _ lgg).trans Hgg.out)
  replace lgg := Nat.lt_of_lt_of_le lgg hq.size
  replace GL := Go.Lib.hid (GL.out.below hq)
  replace HOW := Go.Lib.hid (HOW.out.below hq)
  replace HHD := Go.Lib.hid (HHD.out.below hq)
  replace HB := Go.Lib.hid (HB.out.trans (hq.mono HB.out.size))
  clear cB0_0 cB0_1 cB0_2 cgw_0 cgw_1 cgw_2 cgx_0 cgx_1 cgx_2 cgg_0 cgg_1 cgg_2
  obtain ⟨rfl, rfl, rfl, rfl⟩ := hcr.inj (fun h => by have h1 := h.1.hv; omega) HCR.out
  obtain ⟨ah, ch, rfl, -⟩ := OwnN.form hoh
  have HOG := Go.Lib.hid hoh
  clear hoh hcr hq HC
  have cB0_0 := cell_of_block (i := 0) HB0.out (v := .int .i64 vars) rfl
  have cB0_1 := cell_of_block (i := 1) HB0.out (v := .slice a len cap) rfl
  have cB0_2 := cell_of_block (i := 2) HB0.out (v := .int .i64 root) rfl
  have cgw_0 := cell_of_block (i := 0) Hgw.out (v := .int .i64 V2) rfl
  have cgw_1 := cell_of_block (i := 1) Hgw.out (v := .slice aw ms2.length cw) rfl
  have cgw_2 := cell_of_block (i := 2) Hgw.out (v := .int .i64 R2) rfl
  have cgx_0 := cell_of_block (i := 0) Hgx.out (v := .int .i64 vars) rfl
  have cgx_1 := cell_of_block (i := 1) Hgx.out (v := .slice (some ⟨g, 0, none⟩) len len) rfl
  have cgx_2 := cell_of_block (i := 2) Hgx.out (v := .int .i64 root) rfl
  have cgg_0 := cell_of_block (i := 0) Hgg.out (v := .int .i64 V2) rfl
  have cgg_1 := cell_of_block (i := 1) Hgg.out (v := .slice ag ms2.length cg) rfl
  have cgg_2 := cell_of_block (i := 2) Hgg.out (v := .int .i64 R2) rfl
  go_upto_region 25 with fail
  refine code_gen (R := fun wb => wb.heap[w17.heap.size]? = some (.cells #[.int .i64 V2, .slice ah ms2.length ch, .int .i64 R2] 24 (0, 0)) ∧ Below w17.heap.size w17 wb) ⟨by first | exact (MapKept.heap_alloc _ _).1 | exact heap_alloc_new _ _, by go_grown⟩ ?_
  rintro w18 ⟨k, hq⟩
  have lgh : w17.heap.size < w18.heap.size := (Array.getElem?_eq_some_iff.1 k).1
  replace HB0 := Go.Lib.hid ((hq.block _ lB0).trans HB0.out)
  replace lB0 := Nat.lt_of_lt_of_le lB0 hq.size
  replace Hgw := Go.Lib.hid ((hq.block _ lgw).trans Hgw.out)
  replace lgw := Nat.lt_of_lt_of_le lgw hq.size
  replace Hgx := Go.Lib.hid ((hq.block _ lgx).trans Hgx.out)
  replace lgx := Nat.lt_of_lt_of_le lgx hq.size
  replace Hgg := Go.Lib.hid ((hq.block _ lgg).trans Hgg.out)
  replace lgg := Nat.lt_of_lt_of_le lgg hq.size
  replace GL := Go.Lib.hid (GL.out.below hq)
  replace HOW := Go.Lib.hid (HOW.out.below hq)
  replace HHD := Go.Lib.hid (HHD.out.below hq)
  replace HOG := Go.Lib.hid (HOG.out.below hq)
  replace HB := Go.Lib.hid (HB.out.trans (hq.mono HB.out.size))
  clear cB0_0 cB0_1 cB0_2 cgw_0 cgw_1 cgw_2 cgx_0 cgx_1 cgx_2 cgg_0 cgg_1 cgg_2
  obtain ⟨gh, hgh⟩ : ∃ g, w17.heap.size = g := ⟨_, rfl⟩
  rw [hgh] at k lgh ⊢
  have HEgh := Go.Lib.hid hgh
  have Hgh := Go.Lib.hid k
  clear k hq hgh
  have cB0_0 := cell_of_block (i := 0) HB0.out (v := .int .i64 vars) rfl
  have cB0_1 := cell_of_block (i := 1) HB0.out (v := .slice a len cap) rfl
  have cB0_2 := cell_of_block (i := 2) HB0.out (v := .int .i64 root) rfl
  have cgw_0 := cell_of_block (i := 0) Hgw.out (v := .int .i64 V2) rfl
  have cgw_1 := cell_of_block (i := 1) Hgw.out (v := .slice aw ms2.length cw) rfl
  have cgw_2 := cell_of_block (i := 2) Hgw.out (v := .int .i64 R2) rfl
  have cgx_0 := cell_of_block (i := 0) Hgx.out (v := .int .i64 vars) rfl
  have cgx_1 := cell_of_block (i := 1) Hgx.out (v := .slice (some ⟨g, 0, none⟩) len len) rfl
  have cgx_2 := cell_of_block (i := 2) Hgx.out (v := .int .i64 root) rfl
  have cgg_0 := cell_of_block (i := 0) Hgg.out (v := .int .i64 V2) rfl
  have cgg_1 := cell_of_block (i := 1) Hgg.out (v := .slice ag ms2.length cg) rfl
  have cgg_2 := cell_of_block (i := 2) Hgg.out (v := .int .i64 R2) rfl
  have cgh_0 := cell_of_block (i := 0) Hgh.out (v := .int .i64 V2) rfl
  have cgh_1 := cell_of_block (i := 1) Hgh.out (v := .slice ah ms2.length ch) rfl
  have cgh_2 := cell_of_block (i := 2) Hgh.out (v := .int .i64 R2) rfl
  go_wp2_with fail
  refine (c_eqBdd (B := w18.heap.size) V2 R2 w18 (Nat.le_refl _) (HOG.out.bns rfl) (HOW.out.bns rfl)).mono ?_
  rintro e w19 ⟨rfl, hq⟩
  replace HB0 := Go.Lib.hid ((hq.block _ lB0).trans HB0.out)
  replace lB0 := Nat.lt_of_lt_of_le lB0 hq.size
  replace Hgw := Go.Lib.hid ((hq.block _ lgw).trans Hgw.out)
  replace lgw := Nat.lt_of_lt_of_le lgw hq.size
  replace Hgx := Go.Lib.hid ((hq.block _ lgx).trans Hgx.out)
  replace lgx := Nat.lt_of_lt_of_le lgx hq.size
  replace Hgg := Go.Lib.hid ((hq.block _ lgg).trans Hgg.out)
  replace lgg := Nat.lt_of_lt_of_le lgg hq.size
  replace Hgh := Go.Lib.hid ((hq.block _ lgh).trans Hgh.out)
  replace lgh := Nat.lt_of_lt_of_le lgh hq.size
  replace GL := Go.Lib.hid (GL.out.below hq)
  replace HOW := Go.Lib.hid (HOW.out.below hq)
  replace HHD := Go.Lib.hid (HHD.out.below hq)
  replace HOG := Go.Lib.hid (HOG.out.below hq)
  replace HB := Go.Lib.hid (HB.out.trans (hq.mono HB.out.size))
  clear cB0_0 cB0_1 cB0_2 cgw_0 cgw_1 cgw_2 cgx_0 cgx_1 cgx_2 cgg_0 cgg_1 cgg_2 cgh_0 cgh_1 cgh_2
  clear hq
  have cB0_0 := cell_of_block (i := 0) HB0.out (v := .int .i64 vars) rfl
  have cB0_1 := cell_of_block (i := 1) HB0.out (v := .slice a len cap) rfl
  have cB0_2 := cell_of_block (i := 2) HB0.out (v := .int .i64 root) rfl
  have cgw_0 := cell_of_block (i := 0) Hgw.out (v := .int .i64 V2) rfl
  have cgw_1 := cell_of_block (i := 1) Hgw.out (v := .slice aw ms2.length cw) rfl
  have cgw_2 := cell_of_block (i := 2) Hgw.out (v := .int .i64 R2) rfl
  have cgx_0 := cell_of_block (i := 0) Hgx.out (v := .int .i64 vars) rfl
  have cgx_1 := cell_of_block (i := 1) Hgx.out (v := .slice (some ⟨g, 0, none⟩) len len) rfl
  have cgx_2 := cell_of_block (i := 2) Hgx.out (v := .int .i64 root) rfl
  have cgg_0 := cell_of_block (i := 0) Hgg.out (v := .int .i64 V2) rfl
  have cgg_1 := cell_of_block (i := 1) Hgg.out (v := .slice ag ms2.length cg) rfl
  have cgg_2 := cell_of_block (i := 2) Hgg.out (v := .int .i64 R2) rfl
  have cgh_0 := cell_of_block (i := 0) Hgh.out (v := .int .i64 V2) rfl
  have cgh_1 := cell_of_block (i := 1) Hgh.out (v := .slice ah ms2.length ch) rfl
  have cgh_2 := cell_of_block (i := 2) Hgh.out (v := .int .i64 R2) rfl
  go_wp2_with fail
  refine (c_heldBddL V2 R2 hlw w19 HHD.out).mono ?_
  rintro e w20 ⟨rfl, hq⟩
  replace HB0 := Go.Lib.hid ((hq.block _ lB0).trans HB0.out)
  replace lB0 := Nat.lt_of_lt_of_le lB0 hq.size
  replace Hgw := Go.Lib.hid ((hq.block _ lgw).trans Hgw.out)
  replace lgw := Nat.lt_of_lt_of_le lgw hq.size
  replace Hgx := Go.Lib.hid ((hq.block _ lgx).trans Hgx.out)
  replace lgx := Nat.lt_of_lt_of_le lgx hq.size
  replace Hgg := Go.Lib.hid ((hq.block _ lgg).trans Hgg.out)
  replace lgg := Nat.lt_of_lt_of_le lgg hq.size
  replace Hgh := Go.Lib.hid ((hq.block _ lgh).trans Hgh.out)
  replace lgh := Nat.lt_of_lt_of_le lgh hq.size
  replace GL := Go.Lib.hid (GL.out.below hq)
  replace HOW := Go.Lib.hid (HOW.out.below hq)
  replace HHD := Go.Lib.hid (HHD.out.below hq)
  replace HOG := Go.Lib.hid (HOG.out.below hq)
  replace HB := Go.Lib.hid (HB.out.trans (hq.mono HB.out.size))
  clear cB0_0 cB0_1 cB0_2 cgw_0 cgw_1 cgw_2 cgx_0 cgx_1 cgx_2 cgg_0 cgg_1 cgg_2 cgh_0 cgh_1 cgh_2
  clear hq
  go_wp2_with fail
  go_ret
  exact ⟨rfl, HB.out⟩
end Go.Proofs.YtpehddfnlmkicaaDoor
