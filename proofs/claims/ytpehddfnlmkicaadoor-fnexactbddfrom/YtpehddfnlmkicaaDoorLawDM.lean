/-
  The law of BddFrom.
-/
import Derived.Test.YtpehddfnlmkicaaDoorRows
import Derived.Test.YtpehddfnlmkicaaDoorPaA
import Derived.Test.YtpehddfnlmkicaaDoorG0
import Derived.Test.YtpehddfnlmkicaaDoorBdM
import Derived.Test.YtpehddfnlmkicaaDoorBdI
import Derived.Test.YtpehddfnlmkicaaDoorBdL
import Derived.Test.YtpehddfnlmkicaaDoorBdT
import Derived.Test.YtpehddfnlmkicaaDoorBdC
import Derived.Test.YtpehddfnlmkicaaDoorBdN
import Derived.Test.YtpehddfnlmkicaaDoorBdX
import Derived.Test.YtpehddfnlmkicaaDoorBdY
import Derived.Test.YtpehddfnlmkicaaDoorFoE
import Derived.Test.YtpehddfnlmkicaaDoorFoF
import Derived.Test.YtpehddfnlmkicaaDoorFoO
import Derived.Test.YtpehddfnlmkicaaDoorFoD
import Derived.Test.YtpehddfnlmkicaaDoorLawD0
import Derived.WalkKit
import Derived.ProofKit
import Derived.OpenShut
import Derived.WalkSpells
import Derived.WalkLawsBesides
import Derived.Outline
import Derived.BigQuiet
import Derived.Handy
import Derived.LoopTactic
import Derived.Deep.Light
import Derived.Deep.RegionWith
import Derived.Deep.RegionHeld3
import Derived.Deep.DeepCutAuto
import Derived.Lib.Hide
import Derived.Maps.OwnRows
import Derived.Deep.Onto
import Derived.OneCell
import Derived.StillTailTactics
import Derived.Deep.AppendLies
import Derived.Deep.RegionLaw
namespace Go.Proofs.YtpehddfnlmkicaaDoor
open Go.ChangeShapes Go.WideShapes Go.ChangeAt Go.RowKit Go.Maps Go.ChangeMaps
set_option linter.unusedVariables false
set_option maxRecDepth 100000

theorem c_toIntG {B : Nat} {a : Option Addr} {len cap : Nat} {ns : List Int} (w : World) (hBw : B ≤ w.heap.size) (h : IntsAt B w a len cap ns) (hlen : len ≤ 1048576) :
    Calls Tryd.prog 34 #[.slice a len cap] w fun e w' => ∃ g, e = .returned (.slice (some ⟨g, 0, none⟩) len len) ∧ IntsAt w'.heap.size w' (some ⟨g, 0, none⟩) len len ns ∧ Room w' g (len * 1) ∧ w.heap.size ≤ g ∧ Below w.heap.size w w' := by
  refine (c_toIntS w hBw h hlen).mono ?_
  rintro e w' ⟨rfl, h1, h2, h3⟩
  exact ⟨w.heap.size, rfl, h1, h2, Nat.le_refl _, h3⟩
section
variable {H : Type} {enc : TypeId × Value → H} {w : World}
theorem open_numbers {v : Value} {d : DataW H} {p : List MemPlace} {b0 : Nat} (hv : Value.okWide Tryd.prog w .any b0 45 v) (h : DataW.Trod enc Tryd.prog w 0 (fun _ => true) true 45 v d p) :
    ∃ a len cap zs, v = .slice a len cap ∧ IntsAt w.heap.size w a len cap zs := by
  obtain ⟨a, len, cap, rfl⟩ := okWide_slice Tryd.underlying45 hv
  obtain ⟨fuel, h⟩ := h
  simp only [Value.cells] at h
  obtain ⟨s, vs, e, r⟩ := open_rows (cells := intCells) (ok := fits) (c := 1) Tryd.underlying45 (by kernel_rfl) (fun h => open_int h) (fun nd => ⟨_, rfl⟩) (by decide) h
  simp at e
  obtain ⟨rfl, rfl, rfl⟩ := e
  exact ⟨_, _, _, _, rfl, r⟩
end

set_option maxHeartbeats 16000000 in
theorem w_FnExactBddFrom {a : Option Addr} {len cap : Nat} {codes : List Int} (vars : Int) (W : World) (hgl : Glob W) (h : IntsAt W.heap.size W a len cap codes) :
    Calls Tryd.prog 11 #[.int .i64 vars, .slice a len cap] W fun e w' => e = .returned (.bool true) ∧ Below W.heap.size W w' := by
  have GL := Go.Lib.hid hgl
  have hg0 : 0 < W.heap.size := hgl.1
  have hlm : (len : Int) ≤ 9223372036854775807 := by have h1 := h.2.1; have h2 := h.2.2.1; unfold maxLen at h2; omega
  have HN := Go.Lib.hid h
  clear hgl h
  go_enter Tryd.func11, Tryd.ntmps11
  by_cases hl : 1048576 < len
  · have hli : (1048576 : Int) < len := by omega
    go_wp2_with fail
    go_ret
    exact ⟨rfl, Below.refl _ _⟩
  have hli : ¬ (1048576 : Int) < len := by omega
  have hlen : len ≤ 1048576 := by omega
  clear hl
  go_wp2_with fail
  refine (c_toIntG (B := W.heap.size) W (Nat.le_refl _) HN.out hlen).mono ?_
  rintro e w1 ⟨g0, rfl, hc, -, -, hq⟩
  replace GL := Go.Lib.hid (GL.out.below hq)
  have HB := Go.Lib.hid hq
  have HC := Go.Lib.hid hc
  clear hc hq
  go_wp2_with fail
  refine (c_BddFromS (B := w1.heap.size) vars w1 (Nat.le_refl _) HC.out).mono ?_
  rintro e w2 ⟨vw, V, R, q1, ms, rfl, how, hcr, hq⟩
  replace GL := Go.Lib.hid (GL.out.below hq)
  replace HB := Go.Lib.hid (HB.out.trans (hq.mono HB.out.size))
  obtain ⟨aw, cw, rfl, -⟩ := OwnN.form how
  have HOW := Go.Lib.hid how
  have HCR := Go.Lib.hid hcr
  have HVW := Go.Lib.hid (show ∀ y, Value.ownBlock (.slice aw ms.length cw) = some y → y < w2.heap.size from fun y hy => (how.1.lt y hy).2)
  have hlw : ms.length ≤ 1048576 := by have := hcr.len; omega
  have hs1 := HB.out.size
  clear how hcr hq HC
  go_upto_region 4 with fail
  refine code_gen (R := fun wb => wb.heap[w2.heap.size]? = some (.cells #[.int .i64 V, .slice aw ms.length cw, .int .i64 R] 24 (0, 0)) ∧ Below w2.heap.size w2 wb) ⟨by first | exact (MapKept.heap_alloc _ _).1 | exact heap_alloc_new _ _, by go_grown⟩ ?_
  rintro w3 ⟨k, hq⟩
  have lgw : w2.heap.size < w3.heap.size := (Array.getElem?_eq_some_iff.1 k).1
  replace GL := Go.Lib.hid (GL.out.below hq)
  replace HOW := Go.Lib.hid (HOW.out.below hq)
  replace HB := Go.Lib.hid (HB.out.trans (hq.mono HB.out.size))
  obtain ⟨gw, hgw⟩ : ∃ g, w2.heap.size = g := ⟨_, rfl⟩
  rw [hgw] at k lgw ⊢
  have HEgw := Go.Lib.hid hgw
  have Hgw := Go.Lib.hid k
  clear k hq hgw
  have HVW2 := Go.Lib.hid (show ∀ y, Value.ownBlock (.slice aw ms.length cw) = some y → y < gw from fun y hy => by have h1 := HVW.out y hy; have h2 := HEgw.out; omega)
  clear HVW
  have hWgw : W.heap.size ≤ gw := by rw [← HEgw.out]; exact hs1
  have lgwo := lgw
  have cgw_0 := cell_of_block (i := 0) Hgw.out (v := .int .i64 V) rfl
  have cgw_1 := cell_of_block (i := 1) Hgw.out (v := .slice aw ms.length cw) rfl
  have cgw_2 := cell_of_block (i := 2) Hgw.out (v := .int .i64 R) rfl
  go_wp2_with fail
  refine (c_toIntG (B := W.heap.size) w3 HB.out.size (HN.out.below HB.out) hlen).mono ?_
  rintro e w4 ⟨g, rfl, hc, hrm, hg, hq⟩
  replace Hgw := Go.Lib.hid ((hq.block _ lgw).trans Hgw.out)
  replace lgw := Nat.lt_of_lt_of_le lgw hq.size
  replace GL := Go.Lib.hid (GL.out.below hq)
  replace HOW := Go.Lib.hid (HOW.out.below hq)
  replace HB := Go.Lib.hid (HB.out.trans (hq.mono HB.out.size))
  clear cgw_0 cgw_1 cgw_2
  have HC := Go.Lib.hid hc
  have HRM := Go.Lib.hid hrm
  have hgwg : gw < g := Nat.lt_of_lt_of_le lgwo hg
  have hgl : g < w4.heap.size := hrm.1
  clear hc hrm hg hq
  have cgw_0 := cell_of_block (i := 0) Hgw.out (v := .int .i64 V) rfl
  have cgw_1 := cell_of_block (i := 1) Hgw.out (v := .slice aw ms.length cw) rfl
  have cgw_2 := cell_of_block (i := 2) Hgw.out (v := .int .i64 R) rfl
  go_wp2_with fail
  refine (c_BddFromI (B := w4.heap.size) vars w4 GL.out (Nat.le_refl _) HC.out).mono ?_
  rintro e w5 ⟨vg, V', R', q2, ms', rfl, hog, hcr, hq⟩
  replace Hgw := Go.Lib.hid ((hq.block _ lgw).trans Hgw.out)
  replace lgw := Nat.lt_of_lt_of_le lgw hq.size
  replace GL := Go.Lib.hid (GL.out.below hq)
  replace HOW := Go.Lib.hid (HOW.out.below hq)
  replace HC := Go.Lib.hid ((HC.out.below hq).mono hq.size)
  replace HRM := Go.Lib.hid (HRM.out.below hq)
  replace HB := Go.Lib.hid (HB.out.trans (hq.mono HB.out.size))
  clear cgw_0 cgw_1 cgw_2
  obtain ⟨rfl, rfl, rfl, rfl⟩ := hcr.inj (fun h => by have h1 := of_decide_eq_true h.1; omega) HCR.out
  obtain ⟨ag, cg, rfl, hfm⟩ := OwnN.form hog
  have HOG := Go.Lib.hid hog
  have HRG := Go.Lib.hid (ownBS_of hfm)
  have HGB := Go.Lib.hid (ownB_at hfm)
  have hs5 := hq.size
  clear hog hcr hfm hq
  have cgw_0 := cell_of_block (i := 0) Hgw.out (v := .int .i64 V') rfl
  have cgw_1 := cell_of_block (i := 1) Hgw.out (v := .slice aw ms'.length cw) rfl
  have cgw_2 := cell_of_block (i := 2) Hgw.out (v := .int .i64 R') rfl
  go_upto_region 6 with fail
  refine code_gen (R := fun wb => wb.heap[w5.heap.size]? = some (.cells #[.int .i64 V', .slice ag ms'.length cg, .int .i64 R'] 24 (0, 0)) ∧ Below w5.heap.size w5 wb) ⟨by first | exact (MapKept.heap_alloc _ _).1 | exact heap_alloc_new _ _, by go_grown⟩ ?_
  rintro w6 ⟨k, hq⟩
  have lgg : w5.heap.size < w6.heap.size := (Array.getElem?_eq_some_iff.1 k).1
  replace Hgw := Go.Lib.hid ((hq.block _ lgw).trans Hgw.out)
  replace lgw := Nat.lt_of_lt_of_le lgw hq.size
  replace GL := Go.Lib.hid (GL.out.below hq)
  replace HOW := Go.Lib.hid (HOW.out.below hq)
  replace HC := Go.Lib.hid ((HC.out.below hq).mono hq.size)
  replace HRM := Go.Lib.hid (HRM.out.below hq)
  replace HOG := Go.Lib.hid (HOG.out.below hq)
  replace HRG := Go.Lib.hid (HRG.out.below hq)
  replace HB := Go.Lib.hid (HB.out.trans (hq.mono HB.out.size))
  clear cgw_0 cgw_1 cgw_2
  obtain ⟨gg, hgg⟩ : ∃ g, w5.heap.size = g := ⟨_, rfl⟩
  rw [hgg] at k lgg ⊢
  have HEgg := Go.Lib.hid hgg
  have Hgg := Go.Lib.hid k
  clear k hq hgg
  have HGC := Go.Lib.hid (show ∀ b, ag = some ⟨b, 0, none⟩ → w4.heap.size ≤ b ∧ b < gg from fun b hb => ⟨(HGB.out b hb).1, by have h1 := (HGB.out b hb).2; have h2 := HEgg.out; omega⟩)
  have hgg : w4.heap.size ≤ gg := by have h2 := HEgg.out; have h3 := hs5; omega
  clear HGB
  have cgw_0 := cell_of_block (i := 0) Hgw.out (v := .int .i64 V') rfl
  have cgw_1 := cell_of_block (i := 1) Hgw.out (v := .slice aw ms'.length cw) rfl
  have cgw_2 := cell_of_block (i := 2) Hgw.out (v := .int .i64 R') rfl
  have cgg_0 := cell_of_block (i := 0) Hgg.out (v := .int .i64 V') rfl
  have cgg_1 := cell_of_block (i := 1) Hgg.out (v := .slice ag ms'.length cg) rfl
  have cgg_2 := cell_of_block (i := 2) Hgg.out (v := .int .i64 R') rfl
  go_wp2_with fail
  refine (c_eqBdd (B := w6.heap.size) V' R' w6 (Nat.le_refl _) (HOG.out.bns rfl) (HOW.out.bns rfl)).mono ?_
  rintro e w7 ⟨rfl, hq⟩
  replace Hgw := Go.Lib.hid ((hq.block _ lgw).trans Hgw.out)
  replace lgw := Nat.lt_of_lt_of_le lgw hq.size
  replace Hgg := Go.Lib.hid ((hq.block _ lgg).trans Hgg.out)
  replace lgg := Nat.lt_of_lt_of_le lgg hq.size
  replace GL := Go.Lib.hid (GL.out.below hq)
  replace HOW := Go.Lib.hid (HOW.out.below hq)
  replace HC := Go.Lib.hid ((HC.out.below hq).mono hq.size)
  replace HRM := Go.Lib.hid (HRM.out.below hq)
  replace HOG := Go.Lib.hid (HOG.out.below hq)
  replace HRG := Go.Lib.hid (HRG.out.below hq)
  replace HB := Go.Lib.hid (HB.out.trans (hq.mono HB.out.size))
  clear cgw_0 cgw_1 cgw_2 cgg_0 cgg_1 cgg_2
  clear hq
  have cgw_0 := cell_of_block (i := 0) Hgw.out (v := .int .i64 V') rfl
  have cgw_1 := cell_of_block (i := 1) Hgw.out (v := .slice aw ms'.length cw) rfl
  have cgw_2 := cell_of_block (i := 2) Hgw.out (v := .int .i64 R') rfl
  have cgg_0 := cell_of_block (i := 0) Hgg.out (v := .int .i64 V') rfl
  have cgg_1 := cell_of_block (i := 1) Hgg.out (v := .slice ag ms'.length cg) rfl
  have cgg_2 := cell_of_block (i := 2) Hgg.out (v := .int .i64 R') rfl
  go_wp2_with fail
  refine (c_toIntG (B := W.heap.size) w7 HB.out.size (HN.out.below HB.out) hlen).mono ?_
  rintro e w8 ⟨gt, rfl, hc, -, -, hq⟩
  replace Hgw := Go.Lib.hid ((hq.block _ lgw).trans Hgw.out)
  replace lgw := Nat.lt_of_lt_of_le lgw hq.size
  replace Hgg := Go.Lib.hid ((hq.block _ lgg).trans Hgg.out)
  replace lgg := Nat.lt_of_lt_of_le lgg hq.size
  replace GL := Go.Lib.hid (GL.out.below hq)
  replace HOW := Go.Lib.hid (HOW.out.below hq)
  replace HC := Go.Lib.hid ((HC.out.below hq).mono hq.size)
  replace HRM := Go.Lib.hid (HRM.out.below hq)
  replace HOG := Go.Lib.hid (HOG.out.below hq)
  replace HRG := Go.Lib.hid (HRG.out.below hq)
  replace HB := Go.Lib.hid (HB.out.trans (hq.mono HB.out.size))
  clear cgw_0 cgw_1 cgw_2 cgg_0 cgg_1 cgg_2
  have HD := Go.Lib.hid hc
  clear hc hq
  have cgw_0 := cell_of_block (i := 0) Hgw.out (v := .int .i64 V') rfl
  have cgw_1 := cell_of_block (i := 1) Hgw.out (v := .slice aw ms'.length cw) rfl
  have cgw_2 := cell_of_block (i := 2) Hgw.out (v := .int .i64 R') rfl
  have cgg_0 := cell_of_block (i := 0) Hgg.out (v := .int .i64 V') rfl
  have cgg_1 := cell_of_block (i := 1) Hgg.out (v := .slice ag ms'.length cg) rfl
  have cgg_2 := cell_of_block (i := 2) Hgg.out (v := .int .i64 R') rfl
  go_wp2_with fail
  refine (c_eqIntsB (B := w8.heap.size) w8 (Nat.le_refl _) HC.out HD.out).mono ?_
  rintro e w9 ⟨rfl, hq⟩
  replace Hgw := Go.Lib.hid ((hq.block _ lgw).trans Hgw.out)
  replace lgw := Nat.lt_of_lt_of_le lgw hq.size
  replace Hgg := Go.Lib.hid ((hq.block _ lgg).trans Hgg.out)
  replace lgg := Nat.lt_of_lt_of_le lgg hq.size
  replace GL := Go.Lib.hid (GL.out.below hq)
  replace HOW := Go.Lib.hid (HOW.out.below hq)
  replace HC := Go.Lib.hid ((HC.out.below hq).mono hq.size)
  replace HRM := Go.Lib.hid (HRM.out.below hq)
  replace HOG := Go.Lib.hid (HOG.out.below hq)
  replace HRG := Go.Lib.hid (HRG.out.below hq)
  replace HB := Go.Lib.hid (HB.out.trans (hq.mono HB.out.size))
  clear cgw_0 cgw_1 cgw_2 cgg_0 cgg_1 cgg_2
  clear hq HD HC
  have cgw_0 := cell_of_block (i := 0) Hgw.out (v := .int .i64 V') rfl
  have cgw_1 := cell_of_block (i := 1) Hgw.out (v := .slice aw ms'.length cw) rfl
  have cgw_2 := cell_of_block (i := 2) Hgw.out (v := .int .i64 R') rfl
  have cgg_0 := cell_of_block (i := 0) Hgg.out (v := .int .i64 V') rfl
  have cgg_1 := cell_of_block (i := 1) Hgg.out (v := .slice ag ms'.length cg) rfl
  have cgg_2 := cell_of_block (i := 2) Hgg.out (v := .int .i64 R') rfl
  go_wp2_with fail
  refine (c_markIntS (T := fun b => b = g) rfl 1 (by omega) (by omega) hlen w9 HRM.out).mono ?_
  rintro e w10 ⟨rfl, ht, -, -⟩
  replace Hgw := Go.Lib.hid ((ht.block _ lgw (fun e => by have e1 : gw = g := e; omega)).trans Hgw.out)
  replace lgw := Nat.lt_of_lt_of_le lgw ht.size
  replace Hgg := Go.Lib.hid ((ht.block _ lgg (fun e => by have e1 : gg = g := e; omega)).trans Hgg.out)
  replace lgg := Nat.lt_of_lt_of_le lgg ht.size
  replace GL := Go.Lib.hid (GL.out.touch ht (fun e => by have e1 : 0 = g := e; omega))
  replace HOW := Go.Lib.hid (HOW.out.touch ht (fun y _ _ hy e => by have e1 : y = g := e; have := HVW2.out y hy; omega))
  replace HOG := Go.Lib.hid (HOG.out.touch ht (fun y hy _ hy2 e => by have e1 : y = g := e; omega))
  replace HRG := Go.Lib.hid (HRG.out.touch ht)
  replace HB := Go.Lib.hid (HB.out.trans (ht.belowAt (B := W.heap.size) HB.out.size (fun b hb => by have e1 : b = g := hb; omega)))
  clear cgw_0 cgw_1 cgw_2 cgg_0 cgg_1 cgg_2
  clear ht HRM
  have hq9 : ¬ (1 + (len : Int)) < 0 := by omega
  have cgw_0 := cell_of_block (i := 0) Hgw.out (v := .int .i64 V') rfl
  have cgw_1 := cell_of_block (i := 1) Hgw.out (v := .slice aw ms'.length cw) rfl
  have cgw_2 := cell_of_block (i := 2) Hgw.out (v := .int .i64 R') rfl
  have cgg_0 := cell_of_block (i := 0) Hgg.out (v := .int .i64 V') rfl
  have cgg_1 := cell_of_block (i := 1) Hgg.out (v := .slice ag ms'.length cg) rfl
  have cgg_2 := cell_of_block (i := 2) Hgg.out (v := .int .i64 R') rfl
  go_wp2_with fail
  refine (c_eqBdd (B := w10.heap.size) V' R' w10 (Nat.le_refl _) (HOG.out.bns rfl) (HOW.out.bns rfl)).mono ?_
  rintro e w11 ⟨rfl, hq⟩
  replace Hgw := Go.Lib.hid ((hq.block _ lgw).trans Hgw.out)
  replace lgw := Nat.lt_of_lt_of_le lgw hq.size
  replace Hgg := Go.Lib.hid ((hq.block _ lgg).trans Hgg.out)
  replace lgg := Nat.lt_of_lt_of_le lgg hq.size
  replace GL := Go.Lib.hid (GL.out.below hq)
  replace HOW := Go.Lib.hid (HOW.out.below hq)
  replace HOG := Go.Lib.hid (HOG.out.below hq)
  replace HRG := Go.Lib.hid (HRG.out.below hq)
  replace HB := Go.Lib.hid (HB.out.trans (hq.mono HB.out.size))
  clear cgw_0 cgw_1 cgw_2 cgg_0 cgg_1 cgg_2
  clear hq
  clear HOG
  have cgw_0 := cell_of_block (i := 0) Hgw.out (v := .int .i64 V') rfl
  have cgw_1 := cell_of_block (i := 1) Hgw.out (v := .slice aw ms'.length cw) rfl
  have cgw_2 := cell_of_block (i := 2) Hgw.out (v := .int .i64 R') rfl
  have cgg_0 := cell_of_block (i := 0) Hgg.out (v := .int .i64 V') rfl
  have cgg_1 := cell_of_block (i := 1) Hgg.out (v := .slice ag ms'.length cg) rfl
  have cgg_2 := cell_of_block (i := 2) Hgg.out (v := .int .i64 R') rfl
  go_wp2_with fail
  refine (c_markBddL (T := fun b => ag = some ⟨b, 0, none⟩) V' R' hlw w11 HRG.out).mono ?_
  rintro e w12 ⟨rfl, ht, hhd⟩
  replace Hgw := Go.Lib.hid ((ht.block _ lgw (fun e => by have h1 := HGC.out gw e; omega)).trans Hgw.out)
  replace lgw := Nat.lt_of_lt_of_le lgw ht.size
  replace Hgg := Go.Lib.hid ((ht.block _ lgg (fun e => by have h1 := HGC.out gg e; omega)).trans Hgg.out)
  replace lgg := Nat.lt_of_lt_of_le lgg ht.size
  replace GL := Go.Lib.hid (GL.out.touch ht (fun e => by have h1 := (HGC.out 0 e).1; omega))
  replace HOW := Go.Lib.hid (HOW.out.touch ht (fun y _ _ hy e => by have h1 := (HGC.out y e).1; have h2 := HVW2.out y hy; omega))
  replace HB := Go.Lib.hid (HB.out.trans (ht.belowAt (B := W.heap.size) HB.out.size (fun b hb => by have h1 := (HGC.out b hb).1; omega)))
  clear cgw_0 cgw_1 cgw_2 cgg_0 cgg_1 cgg_2
  have HHD := Go.Lib.hid hhd
  clear ht hhd HRG
  have hp1 : ¬ (1 + 3 * (ms'.length : Int)) < 0 := by omega
  have cgw_0 := cell_of_block (i := 0) Hgw.out (v := .int .i64 V') rfl
  have cgw_1 := cell_of_block (i := 1) Hgw.out (v := .slice aw ms'.length cw) rfl
  have cgw_2 := cell_of_block (i := 2) Hgw.out (v := .int .i64 R') rfl
  have cgg_0 := cell_of_block (i := 0) Hgg.out (v := .int .i64 V') rfl
  have cgg_1 := cell_of_block (i := 1) Hgg.out (v := .slice ag ms'.length cg) rfl
  have cgg_2 := cell_of_block (i := 2) Hgg.out (v := .int .i64 R') rfl
  go_wp2_with fail
  refine (c_heldBddL V' R' hlw w12 HHD.out).mono ?_
  rintro e w13 ⟨rfl, hq⟩
  replace Hgw := Go.Lib.hid ((hq.block _ lgw).trans Hgw.out)
  replace lgw := Nat.lt_of_lt_of_le lgw hq.size
  replace Hgg := Go.Lib.hid ((hq.block _ lgg).trans Hgg.out)
  replace lgg := Nat.lt_of_lt_of_le lgg hq.size
  replace GL := Go.Lib.hid (GL.out.below hq)
  replace HOW := Go.Lib.hid (HOW.out.below hq)
  replace HHD := Go.Lib.hid (HHD.out.below hq)
  replace HB := Go.Lib.hid (HB.out.trans (hq.mono HB.out.size))
  clear cgw_0 cgw_1 cgw_2 cgg_0 cgg_1 cgg_2
  clear hq
  have cgw_0 := cell_of_block (i := 0) Hgw.out (v := .int .i64 V') rfl
  have cgw_1 := cell_of_block (i := 1) Hgw.out (v := .slice aw ms'.length cw) rfl
  have cgw_2 := cell_of_block (i := 2) Hgw.out (v := .int .i64 R') rfl
  have cgg_0 := cell_of_block (i := 0) Hgg.out (v := .int .i64 V') rfl
  have cgg_1 := cell_of_block (i := 1) Hgg.out (v := .slice ag ms'.length cg) rfl
  have cgg_2 := cell_of_block (i := 2) Hgg.out (v := .int .i64 R') rfl
  go_wp2_with fail
  refine (c_toIntG (B := W.heap.size) w13 HB.out.size (HN.out.below HB.out) hlen).mono ?_
  rintro e w14 ⟨gu, rfl, hc, -, -, hq⟩
  replace Hgw := Go.Lib.hid ((hq.block _ lgw).trans Hgw.out)
  replace lgw := Nat.lt_of_lt_of_le lgw hq.size
  replace Hgg := Go.Lib.hid ((hq.block _ lgg).trans Hgg.out)
  replace lgg := Nat.lt_of_lt_of_le lgg hq.size
  replace GL := Go.Lib.hid (GL.out.below hq)
  replace HOW := Go.Lib.hid (HOW.out.below hq)
  replace HHD := Go.Lib.hid (HHD.out.below hq)
  replace HB := Go.Lib.hid (HB.out.trans (hq.mono HB.out.size))
  clear cgw_0 cgw_1 cgw_2 cgg_0 cgg_1 cgg_2
  have HC := Go.Lib.hid hc
  clear hc hq
  have cgw_0 := cell_of_block (i := 0) Hgw.out (v := .int .i64 V') rfl
  have cgw_1 := cell_of_block (i := 1) Hgw.out (v := .slice aw ms'.length cw) rfl
  have cgw_2 := cell_of_block (i := 2) Hgw.out (v := .int .i64 R') rfl
  have cgg_0 := cell_of_block (i := 0) Hgg.out (v := .int .i64 V') rfl
  have cgg_1 := cell_of_block (i := 1) Hgg.out (v := .slice ag ms'.length cg) rfl
  have cgg_2 := cell_of_block (i := 2) Hgg.out (v := .int .i64 R') rfl
  go_wp2_with fail
  refine (c_BddFromI (B := w14.heap.size) vars w14 GL.out (Nat.le_refl _) HC.out).mono ?_
  rintro e w15 ⟨vh, V2, R2, q3, ms2, rfl, hoh, hcr, hq⟩
  replace Hgw := Go.Lib.hid ((hq.block _ lgw).trans Hgw.out)
  replace lgw := Nat.lt_of_lt_of_le lgw hq.size
  replace Hgg := Go.Lib.hid ((hq.block _ lgg).trans Hgg.out)
  replace lgg := Nat.lt_of_lt_of_le lgg hq.size
  replace GL := Go.Lib.hid (GL.out.below hq)
  replace HOW := Go.Lib.hid (HOW.out.below hq)
  replace HHD := Go.Lib.hid (HHD.out.below hq)
  replace HB := Go.Lib.hid (HB.out.trans (hq.mono HB.out.size))
  clear cgw_0 cgw_1 cgw_2 cgg_0 cgg_1 cgg_2
  obtain ⟨rfl, rfl, rfl, rfl⟩ := hcr.inj (fun h => by have h1 := of_decide_eq_true h.1; omega) HCR.out
  obtain ⟨ah, ch, rfl, -⟩ := OwnN.form hoh
  have HOG := Go.Lib.hid hoh
  clear hoh hcr hq HC
  have cgw_0 := cell_of_block (i := 0) Hgw.out (v := .int .i64 V2) rfl
  have cgw_1 := cell_of_block (i := 1) Hgw.out (v := .slice aw ms2.length cw) rfl
  have cgw_2 := cell_of_block (i := 2) Hgw.out (v := .int .i64 R2) rfl
  have cgg_0 := cell_of_block (i := 0) Hgg.out (v := .int .i64 V2) rfl
  have cgg_1 := cell_of_block (i := 1) Hgg.out (v := .slice ag ms2.length cg) rfl
  have cgg_2 := cell_of_block (i := 2) Hgg.out (v := .int .i64 R2) rfl
  go_upto_region 23 with fail
  refine code_gen (R := fun wb => wb.heap[w15.heap.size]? = some (.cells #[.int .i64 V2, .slice ah ms2.length ch, .int .i64 R2] 24 (0, 0)) ∧ Below w15.heap.size w15 wb) ⟨by first | exact (MapKept.heap_alloc _ _).1 | exact heap_alloc_new _ _, by go_grown⟩ ?_
  rintro w16 ⟨k, hq⟩
  have lgh : w15.heap.size < w16.heap.size := (Array.getElem?_eq_some_iff.1 k).1
  replace Hgw := Go.Lib.hid ((hq.block _ lgw).trans Hgw.out)
  replace lgw := Nat.lt_of_lt_of_le lgw hq.size
  replace Hgg := Go.Lib.hid ((hq.block _ lgg).trans Hgg.out)
  replace lgg := Nat.lt_of_lt_of_le lgg hq.size
  replace GL := Go.Lib.hid (GL.out.below hq)
  replace HOW := Go.Lib.hid (HOW.out.below hq)
  replace HHD := Go.Lib.hid (HHD.out.below hq)
  replace HOG := Go.Lib.hid (HOG.out.below hq)
  replace HB := Go.Lib.hid (HB.out.trans (hq.mono HB.out.size))
  clear cgw_0 cgw_1 cgw_2 cgg_0 cgg_1 cgg_2
  obtain ⟨gh, hgh⟩ : ∃ g, w15.heap.size = g := ⟨_, rfl⟩
  rw [hgh] at k lgh ⊢
  have HEgh := Go.Lib.hid hgh
  have Hgh := Go.Lib.hid k
  clear k hq hgh
  have cgw_0 := cell_of_block (i := 0) Hgw.out (v := .int .i64 V2) rfl
  have cgw_1 := cell_of_block (i := 1) Hgw.out (v := .slice aw ms2.length cw) rfl
  have cgw_2 := cell_of_block (i := 2) Hgw.out (v := .int .i64 R2) rfl
  have cgg_0 := cell_of_block (i := 0) Hgg.out (v := .int .i64 V2) rfl
  have cgg_1 := cell_of_block (i := 1) Hgg.out (v := .slice ag ms2.length cg) rfl
  have cgg_2 := cell_of_block (i := 2) Hgg.out (v := .int .i64 R2) rfl
  have cgh_0 := cell_of_block (i := 0) Hgh.out (v := .int .i64 V2) rfl
  have cgh_1 := cell_of_block (i := 1) Hgh.out (v := .slice ah ms2.length ch) rfl
  have cgh_2 := cell_of_block (i := 2) Hgh.out (v := .int .i64 R2) rfl
  go_wp2_with fail
  refine (c_eqBdd (B := w16.heap.size) V2 R2 w16 (Nat.le_refl _) (HOG.out.bns rfl) (HOW.out.bns rfl)).mono ?_
  rintro e w17 ⟨rfl, hq⟩
  replace Hgw := Go.Lib.hid ((hq.block _ lgw).trans Hgw.out)
  replace lgw := Nat.lt_of_lt_of_le lgw hq.size
  replace Hgg := Go.Lib.hid ((hq.block _ lgg).trans Hgg.out)
  replace lgg := Nat.lt_of_lt_of_le lgg hq.size
  replace Hgh := Go.Lib.hid ((hq.block _ lgh).trans Hgh.out)
  replace lgh := Nat.lt_of_lt_of_le lgh hq.size
  replace GL := Go.Lib.hid (GL.out.below hq)
  replace HOW := Go.Lib.hid (HOW.out.below hq)
  replace HHD := Go.Lib.hid (HHD.out.below hq)
  replace HOG := Go.Lib.hid (HOG.out.below hq)
  replace HB := Go.Lib.hid (HB.out.trans (hq.mono HB.out.size))
  clear cgw_0 cgw_1 cgw_2 cgg_0 cgg_1 cgg_2 cgh_0 cgh_1 cgh_2
  clear hq
  have cgw_0 := cell_of_block (i := 0) Hgw.out (v := .int .i64 V2) rfl
  have cgw_1 := cell_of_block (i := 1) Hgw.out (v := .slice aw ms2.length cw) rfl
  have cgw_2 := cell_of_block (i := 2) Hgw.out (v := .int .i64 R2) rfl
  have cgg_0 := cell_of_block (i := 0) Hgg.out (v := .int .i64 V2) rfl
  have cgg_1 := cell_of_block (i := 1) Hgg.out (v := .slice ag ms2.length cg) rfl
  have cgg_2 := cell_of_block (i := 2) Hgg.out (v := .int .i64 R2) rfl
  have cgh_0 := cell_of_block (i := 0) Hgh.out (v := .int .i64 V2) rfl
  have cgh_1 := cell_of_block (i := 1) Hgh.out (v := .slice ah ms2.length ch) rfl
  have cgh_2 := cell_of_block (i := 2) Hgh.out (v := .int .i64 R2) rfl
  go_wp2_with fail
  refine (c_heldBddL V2 R2 hlw w17 HHD.out).mono ?_
  rintro e w18 ⟨rfl, hq⟩
  replace Hgw := Go.Lib.hid ((hq.block _ lgw).trans Hgw.out)
  replace lgw := Nat.lt_of_lt_of_le lgw hq.size
  replace Hgg := Go.Lib.hid ((hq.block _ lgg).trans Hgg.out)
  replace lgg := Nat.lt_of_lt_of_le lgg hq.size
  replace Hgh := Go.Lib.hid ((hq.block _ lgh).trans Hgh.out)
  replace lgh := Nat.lt_of_lt_of_le lgh hq.size
  replace GL := Go.Lib.hid (GL.out.below hq)
  replace HOW := Go.Lib.hid (HOW.out.below hq)
  replace HHD := Go.Lib.hid (HHD.out.below hq)
  replace HOG := Go.Lib.hid (HOG.out.below hq)
  replace HB := Go.Lib.hid (HB.out.trans (hq.mono HB.out.size))
  clear cgw_0 cgw_1 cgw_2 cgg_0 cgg_1 cgg_2 cgh_0 cgh_1 cgh_2
  clear hq
  go_wp2_with fail
  go_ret
  exact ⟨rfl, HB.out⟩
end Go.Proofs.YtpehddfnlmkicaaDoor
