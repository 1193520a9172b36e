/-
  The law FnQuantify: leaving a bit open is trying both.
-/
import Derived.Test.YthdofdglbdfkkaaDoorRows
import Derived.Test.YthdofdglbdfkkaaDoorPaA
import Derived.Test.YthdofdglbdfkkaaDoorG0
import Derived.Test.YthdofdglbdfkkaaDoorRd
import Derived.Test.YthdofdglbdfkkaaDoorBdU
import Derived.Test.YthdofdglbdfkkaaDoorFpA
import Derived.Test.YthdofdglbdfkkaaDoorFpB
import Derived.Test.YthdofdglbdfkkaaDoorFpL
import Derived.Test.YthdofdglbdfkkaaDoorFpE
import Derived.Test.YthdofdglbdfkkaaDoorFpQ
import Derived.Test.YthdofdglbdfkkaaDoorFpG
import Derived.Test.YthdofdglbdfkkaaDoorFpI
import Derived.Test.YthdofdglbdfkkaaDoorFoE
import Derived.Test.YthdofdglbdfkkaaDoorFoH
import Derived.Test.YthdofdglbdfkkaaDoorLawD0
import Derived.WalkKit
import Derived.ProofKit
import Derived.OpenShut
import Derived.WalkSpells
import Derived.WalkLawsBesides
import Derived.Outline
import Derived.BigQuiet
import Derived.Handy
import Derived.LoopTactic
import Derived.Deep.Light
import Derived.Deep.RegionWith
import Derived.Deep.RegionHeld3
import Derived.Deep.DeepCutAuto
import Derived.Lib.Hide
import Derived.Maps.OwnRows
import Derived.Deep.Onto
import Derived.OneCell
import Derived.StillTailTactics
import Derived.Deep.AppendLies
import Derived.Deep.RegionLaw
namespace Go.Proofs.YthdofdglbdfkkaaDoor
open Go.ChangeShapes Go.WideShapes Go.ChangeAt Go.RowKit Go.Maps Go.ChangeMaps
set_option linter.unusedVariables false
set_option maxRecDepth 100000

set_option maxHeartbeats 32000000 in
theorem w_FnQuantify {a1 : Option Addr} {len1 cap1 : Nat} (W : World) (hgl : Glob W) (h1 : BytesAt W.heap.size W a1 len1 cap1) :
    Calls Tryd.prog 4 #[.slice a1 len1 cap1] W fun e w' => e = .returned (.bool true) ∧ Below W.heap.size W w' := by
  have GL := Go.Lib.hid hgl
  have HC := Go.Lib.hid h1
  have hm1 : (len1 : Int) ≤ 9223372036854775807 := by have h3 := h1.1; have h4 := h1.2.1; unfold maxLen at h4; omega
  clear hgl h1
  go_enter Tryd.func4, Tryd.ntmps4
  by_cases hl1 : 1048576 < len1
  · have hi1 : (1048576 : Int) < len1 := by omega
    go_wp2_with fail
    go_ret
    exact ⟨rfl, Below.refl _ _⟩
  have hi1 : ¬ (1048576 : Int) < len1 := by omega
  go_wp2_with fail
  refine (c_DrawBddSome (B := W.heap.size) W HC.out (Nat.le_refl _)).mono ?_
  rintro e w1 ⟨V, xa, xl, xc, Rb, i, rfl, ⟨mb, hnb⟩, hxl, hq⟩
  replace GL := Go.Lib.hid (GL.out.below hq)
  have HB := Go.Lib.hid hq
  have Nb := Go.Lib.hid hnb
  clear hnb hq
  go_upto_region 4 with fail
  refine code_gen (R := fun wb => wb.heap[w1.heap.size]? = some (.cells #[.int .i64 V, .slice xa xl xc, .int .i64 Rb] 25 (0, 0)) ∧ Below w1.heap.size w1 wb) ⟨by first | exact (MapKept.heap_alloc _ _).1 | exact heap_alloc_new _ _, by go_grown⟩ ?_
  rintro w2 ⟨k, hq⟩
  have lgb : w1.heap.size < w2.heap.size := (Array.getElem?_eq_some_iff.1 k).1
  replace GL := Go.Lib.hid (GL.out.below hq)
  replace Nb := Go.Lib.hid ((Nb.out.below hq).mono hq.size)
  replace HB := Go.Lib.hid (HB.out.trans (hq.mono HB.out.size))
  obtain ⟨gb, hgb⟩ : ∃ g, w1.heap.size = g := ⟨_, rfl⟩
  rw [hgb] at k lgb ⊢
  have Hgb := Go.Lib.hid k
  clear k hq hgb
  have cgb_0 := cell_of_block (i := 0) Hgb.out (v := .int .i64 V) rfl
  have cgb_1 := cell_of_block (i := 1) Hgb.out (v := .slice xa xl xc) rfl
  have cgb_2 := cell_of_block (i := 2) Hgb.out (v := .int .i64 Rb) rfl
  go_wp2_with fail
  refine (c_BddSomeI V Rb i w2 GL.out (Nat.le_refl _) Nb.out).mono ?_
  rintro e w3 ⟨x, Vs, Rg, b1, mg, rfl, how, hrel, hq⟩
  replace Hgb := Go.Lib.hid ((hq.block _ lgb).trans Hgb.out)
  replace lgb := Nat.lt_of_lt_of_le lgb hq.size
  replace GL := Go.Lib.hid (GL.out.below hq)
  replace Nb := Go.Lib.hid ((Nb.out.below hq).mono hq.size)
  replace HB := Go.Lib.hid (HB.out.trans (hq.mono HB.out.size))
  clear cgb_0 cgb_1 cgb_2
  obtain ⟨ag, kg, rfl, -⟩ := OwnN.form how
  have Ng := Go.Lib.hid (OwnN.bns how rfl)
  have CB := Go.Lib.hid hrel
  clear how hrel hq
  go_upto_region 5 with fail
  refine code_gen (R := fun wb => wb.heap[w3.heap.size]? = some (.cells #[.int .i64 Vs, .slice ag mg.length kg, .int .i64 Rg] 25 (0, 0)) ∧ Below w3.heap.size w3 wb) ⟨by first | exact (MapKept.heap_alloc _ _).1 | exact heap_alloc_new _ _, by go_grown⟩ ?_
  rintro w4 ⟨k, hq⟩
  have lgg : w3.heap.size < w4.heap.size := (Array.getElem?_eq_some_iff.1 k).1
  replace Hgb := Go.Lib.hid ((hq.block _ lgb).trans Hgb.out)
  replace lgb := Nat.lt_of_lt_of_le lgb hq.size
  replace GL := Go.Lib.hid (GL.out.below hq)
  replace Nb := Go.Lib.hid ((Nb.out.below hq).mono hq.size)
  replace Ng := Go.Lib.hid ((Ng.out.below hq).mono hq.size)
  replace HB := Go.Lib.hid (HB.out.trans (hq.mono HB.out.size))
  obtain ⟨gg, hgg⟩ : ∃ g, w3.heap.size = g := ⟨_, rfl⟩
  rw [hgg] at k lgg ⊢
  have Hgg := Go.Lib.hid k
  clear k hq hgg
  have cgb_0 := cell_of_block (i := 0) Hgb.out (v := .int .i64 V) rfl
  have cgb_1 := cell_of_block (i := 1) Hgb.out (v := .slice xa xl xc) rfl
  have cgb_2 := cell_of_block (i := 2) Hgb.out (v := .int .i64 Rb) rfl
  go_wp2_with fail
  refine (c_BddSomeS V Rb i w4 (Nat.le_refl _) Nb.out).mono ?_
  rintro e w5 ⟨y, V', R', b2, m', rfl, how, hrel, hq⟩
  replace Hgb := Go.Lib.hid ((hq.block _ lgb).trans Hgb.out)
  replace lgb := Nat.lt_of_lt_of_le lgb hq.size
  replace Hgg := Go.Lib.hid ((hq.block _ lgg).trans Hgg.out)
  replace lgg := Nat.lt_of_lt_of_le lgg hq.size
  replace GL := Go.Lib.hid (GL.out.below hq)
  replace Nb := Go.Lib.hid ((Nb.out.below hq).mono hq.size)
  replace Ng := Go.Lib.hid ((Ng.out.below hq).mono hq.size)
  replace HB := Go.Lib.hid (HB.out.trans (hq.mono HB.out.size))
  clear cgb_0 cgb_1 cgb_2
  obtain ⟨e1, e2, e3, e4⟩ := CB.out.inj (fun h => h.1.hv.1) hrel
  subst e1
  subst e2
  subst e3
  subst e4
  obtain ⟨aw, kw, rfl, -⟩ := OwnN.form how
  have Nw := Go.Lib.hid (OwnN.bns how rfl)
  clear how hrel hq
  go_upto_region 6 with fail
  refine code_gen (R := fun wb => wb.heap[w5.heap.size]? = some (.cells #[.int .i64 Vs, .slice aw mg.length kw, .int .i64 Rg] 25 (0, 0)) ∧ Below w5.heap.size w5 wb) ⟨by first | exact (MapKept.heap_alloc _ _).1 | exact heap_alloc_new _ _, by go_grown⟩ ?_
  rintro w6 ⟨k, hq⟩
  have lgw : w5.heap.size < w6.heap.size := (Array.getElem?_eq_some_iff.1 k).1
  replace Hgb := Go.Lib.hid ((hq.block _ lgb).trans Hgb.out)
  replace lgb := Nat.lt_of_lt_of_le lgb hq.size
  replace Hgg := Go.Lib.hid ((hq.block _ lgg).trans Hgg.out)
  replace lgg := Nat.lt_of_lt_of_le lgg hq.size
  replace GL := Go.Lib.hid (GL.out.below hq)
  replace Nb := Go.Lib.hid ((Nb.out.below hq).mono hq.size)
  replace Ng := Go.Lib.hid ((Ng.out.below hq).mono hq.size)
  replace Nw := Go.Lib.hid ((Nw.out.below hq).mono hq.size)
  replace HB := Go.Lib.hid (HB.out.trans (hq.mono HB.out.size))
  obtain ⟨gw, hgw⟩ : ∃ g, w5.heap.size = g := ⟨_, rfl⟩
  rw [hgw] at k lgw ⊢
  have Hgw := Go.Lib.hid k
  clear k hq hgw
  cases b1 with
  | false =>
    have cgg_0 := cell_of_block (i := 0) Hgg.out (v := .int .i64 Vs) rfl
    have cgg_1 := cell_of_block (i := 1) Hgg.out (v := .slice ag mg.length kg) rfl
    have cgg_2 := cell_of_block (i := 2) Hgg.out (v := .int .i64 Rg) rfl
    have cgw_0 := cell_of_block (i := 0) Hgw.out (v := .int .i64 Vs) rfl
    have cgw_1 := cell_of_block (i := 1) Hgw.out (v := .slice aw mg.length kw) rfl
    have cgw_2 := cell_of_block (i := 2) Hgw.out (v := .int .i64 Rg) rfl
    go_wp2_with fail
    refine (c_ldBdd (B := w6.heap.size) Vs Rg Vs Rg w6 (Nat.le_refl _) Ng.out Nw.out).mono ?_
    rintro e wz ⟨hb, hq⟩
    obtain rfl := boolIs_t ⟨rfl, rfl, rfl⟩ hb
    have HF := Go.Lib.hid (HB.out.trans (hq.mono HB.out.size))
    clear hb hq cgg_0 cgg_1 cgg_2 cgw_0 cgw_1 cgw_2
    go_wp2_with fail
    go_ret
    exact ⟨rfl, HF.out⟩
  | true =>
    obtain ⟨⟨ho, hi⟩, ha⟩ := CB.out.yes
    have hv13 := ho.hv
    have e1 : V = Vs := (ha.is hv13).1.symm
    subst e1
    have HO := Go.Lib.hid ho
    have HI := Go.Lib.hid hi
    have As := Go.Lib.hid ha
    have Us := Go.Lib.hid (some_is ho hi ha)
    clear ho ha CB
    have cgg_0 := cell_of_block (i := 0) Hgg.out (v := .int .i64 V) rfl
    have cgg_1 := cell_of_block (i := 1) Hgg.out (v := .slice ag mg.length kg) rfl
    have cgg_2 := cell_of_block (i := 2) Hgg.out (v := .int .i64 Rg) rfl
    have cgw_0 := cell_of_block (i := 0) Hgw.out (v := .int .i64 V) rfl
    have cgw_1 := cell_of_block (i := 1) Hgw.out (v := .slice aw mg.length kw) rfl
    have cgw_2 := cell_of_block (i := 2) Hgw.out (v := .int .i64 Rg) rfl
    go_wp2_with fail
    refine (c_ldBdd (B := w6.heap.size) V Rg V Rg w6 (Nat.le_refl _) Ng.out Nw.out).mono ?_
    rintro e w7 ⟨hb, hq⟩
    replace Hgb := Go.Lib.hid ((hq.block _ lgb).trans Hgb.out)
    replace lgb := Nat.lt_of_lt_of_le lgb hq.size
    replace Hgg := Go.Lib.hid ((hq.block _ lgg).trans Hgg.out)
    replace lgg := Nat.lt_of_lt_of_le lgg hq.size
    replace Hgw := Go.Lib.hid ((hq.block _ lgw).trans Hgw.out)
    replace lgw := Nat.lt_of_lt_of_le lgw hq.size
    replace GL := Go.Lib.hid (GL.out.below hq)
    replace Nb := Go.Lib.hid ((Nb.out.below hq).mono hq.size)
    replace Ng := Go.Lib.hid ((Ng.out.below hq).mono hq.size)
    replace Nw := Go.Lib.hid ((Nw.out.below hq).mono hq.size)
    replace HB := Go.Lib.hid (HB.out.trans (hq.mono HB.out.size))
    clear cgg_0 cgg_1 cgg_2 cgw_0 cgw_1 cgw_2
    obtain rfl := boolIs_t ⟨rfl, rfl, rfl⟩ hb
    clear hb hq Nw Hgw lgw
    have cgb_0 := cell_of_block (i := 0) Hgb.out (v := .int .i64 V) rfl
    have cgb_1 := cell_of_block (i := 1) Hgb.out (v := .slice xa xl xc) rfl
    have cgb_2 := cell_of_block (i := 2) Hgb.out (v := .int .i64 Rb) rfl
    go_wp2_with fail
    refine (c_BddFixI V Rb i false w7 GL.out (Nat.le_refl _) Nb.out).mono ?_
    rintro e w8 ⟨x, V2, Rl, b2, ml, rfl, how, hrel, hq⟩
    replace Hgb := Go.Lib.hid ((hq.block _ lgb).trans Hgb.out)
    replace lgb := Nat.lt_of_lt_of_le lgb hq.size
    replace Hgg := Go.Lib.hid ((hq.block _ lgg).trans Hgg.out)
    replace lgg := Nat.lt_of_lt_of_le lgg hq.size
    replace GL := Go.Lib.hid (GL.out.below hq)
    replace Nb := Go.Lib.hid ((Nb.out.below hq).mono hq.size)
    replace Ng := Go.Lib.hid ((Ng.out.below hq).mono hq.size)
    replace HB := Go.Lib.hid (HB.out.trans (hq.mono HB.out.size))
    clear cgb_0 cgb_1 cgb_2
    obtain ⟨e1, e2, e3, e4, e5, e6⟩ := fix_is HO.out HI.out hrel
    subst e1
    subst e2
    obtain ⟨al, kl, rfl, -⟩ := OwnN.form how
    have Nl := Go.Lib.hid (OwnN.bns how rfl)
    have Al := Go.Lib.hid e3
    have Ol := Go.Lib.hid e4
    have El := Go.Lib.hid e5
    have Ul := Go.Lib.hid e6
    clear how hrel hq e3 e4 e5 e6
    go_upto_region 11 with fail
    refine code_gen (R := fun wb => wb.heap[w8.heap.size]? = some (.cells #[.int .i64 V, .slice al ml.length kl, .int .i64 Rl] 25 (0, 0)) ∧ Below w8.heap.size w8 wb) ⟨by first | exact (MapKept.heap_alloc _ _).1 | exact heap_alloc_new _ _, by go_grown⟩ ?_
    rintro w9 ⟨k, hq⟩
    have lgl : w8.heap.size < w9.heap.size := (Array.getElem?_eq_some_iff.1 k).1
    replace Hgb := Go.Lib.hid ((hq.block _ lgb).trans Hgb.out)
    replace lgb := Nat.lt_of_lt_of_le lgb hq.size
    replace Hgg := Go.Lib.hid ((hq.block _ lgg).trans Hgg.out)
    replace lgg := Nat.lt_of_lt_of_le lgg hq.size
    replace GL := Go.Lib.hid (GL.out.below hq)
    replace Nb := Go.Lib.hid ((Nb.out.below hq).mono hq.size)
    replace Ng := Go.Lib.hid ((Ng.out.below hq).mono hq.size)
    replace Nl := Go.Lib.hid ((Nl.out.below hq).mono hq.size)
    replace HB := Go.Lib.hid (HB.out.trans (hq.mono HB.out.size))
    obtain ⟨gl, hgl⟩ : ∃ g, w8.heap.size = g := ⟨_, rfl⟩
    rw [hgl] at k lgl ⊢
    have Hgl := Go.Lib.hid k
    clear k hq hgl
    have cgb_0 := cell_of_block (i := 0) Hgb.out (v := .int .i64 V) rfl
    have cgb_1 := cell_of_block (i := 1) Hgb.out (v := .slice xa xl xc) rfl
    have cgb_2 := cell_of_block (i := 2) Hgb.out (v := .int .i64 Rb) rfl
    go_wp2_with fail
    refine (c_BddFixI V Rb i true w9 GL.out (Nat.le_refl _) Nb.out).mono ?_
    rintro e w10 ⟨x, V2, Rh, b2, mh, rfl, how, hrel, hq⟩
    replace Hgb := Go.Lib.hid ((hq.block _ lgb).trans Hgb.out)
    replace lgb := Nat.lt_of_lt_of_le lgb hq.size
    replace Hgg := Go.Lib.hid ((hq.block _ lgg).trans Hgg.out)
    replace lgg := Nat.lt_of_lt_of_le lgg hq.size
    replace Hgl := Go.Lib.hid ((hq.block _ lgl).trans Hgl.out)
    replace lgl := Nat.lt_of_lt_of_le lgl hq.size
    replace GL := Go.Lib.hid (GL.out.below hq)
    replace Nb := Go.Lib.hid ((Nb.out.below hq).mono hq.size)
    replace Ng := Go.Lib.hid ((Ng.out.below hq).mono hq.size)
    replace Nl := Go.Lib.hid ((Nl.out.below hq).mono hq.size)
    replace HB := Go.Lib.hid (HB.out.trans (hq.mono HB.out.size))
    clear cgb_0 cgb_1 cgb_2
    obtain ⟨e1, e2, e3, e4, e5, e6⟩ := fix_is HO.out HI.out hrel
    subst e1
    subst e2
    obtain ⟨ah, kh, rfl, -⟩ := OwnN.form how
    have Nh := Go.Lib.hid (OwnN.bns how rfl)
    have Ah := Go.Lib.hid e3
    have Oh := Go.Lib.hid e4
    have Eh := Go.Lib.hid e5
    have Uh := Go.Lib.hid e6
    clear how hrel hq e3 e4 e5 e6
    go_upto_region 12 with fail
    refine code_gen (R := fun wb => wb.heap[w10.heap.size]? = some (.cells #[.int .i64 V, .slice ah mh.length kh, .int .i64 Rh] 25 (0, 0)) ∧ Below w10.heap.size w10 wb) ⟨by first | exact (MapKept.heap_alloc _ _).1 | exact heap_alloc_new _ _, by go_grown⟩ ?_
    rintro w11 ⟨k, hq⟩
    have lgh : w10.heap.size < w11.heap.size := (Array.getElem?_eq_some_iff.1 k).1
    replace Hgb := Go.Lib.hid ((hq.block _ lgb).trans Hgb.out)
    replace lgb := Nat.lt_of_lt_of_le lgb hq.size
    replace Hgg := Go.Lib.hid ((hq.block _ lgg).trans Hgg.out)
    replace lgg := Nat.lt_of_lt_of_le lgg hq.size
    replace Hgl := Go.Lib.hid ((hq.block _ lgl).trans Hgl.out)
    replace lgl := Nat.lt_of_lt_of_le lgl hq.size
    replace GL := Go.Lib.hid (GL.out.below hq)
    replace Nb := Go.Lib.hid ((Nb.out.below hq).mono hq.size)
    replace Ng := Go.Lib.hid ((Ng.out.below hq).mono hq.size)
    replace Nl := Go.Lib.hid ((Nl.out.below hq).mono hq.size)
    replace Nh := Go.Lib.hid ((Nh.out.below hq).mono hq.size)
    replace HB := Go.Lib.hid (HB.out.trans (hq.mono HB.out.size))
    obtain ⟨gh, hgh⟩ : ∃ g, w10.heap.size = g := ⟨_, rfl⟩
    rw [hgh] at k lgh ⊢
    have Hgh := Go.Lib.hid k
    clear k hq hgh
    have cgl_0 := cell_of_block (i := 0) Hgl.out (v := .int .i64 V) rfl
    have cgl_1 := cell_of_block (i := 1) Hgl.out (v := .slice al ml.length kl) rfl
    have cgl_2 := cell_of_block (i := 2) Hgl.out (v := .int .i64 Rl) rfl
    have cgh_0 := cell_of_block (i := 0) Hgh.out (v := .int .i64 V) rfl
    have cgh_1 := cell_of_block (i := 1) Hgh.out (v := .slice ah mh.length kh) rfl
    have cgh_2 := cell_of_block (i := 2) Hgh.out (v := .int .i64 Rh) rfl
    go_wp2_with fail
    refine (c_BddOrI V Rl V Rh w11 GL.out (Nat.le_refl _) Nl.out Nh.out).mono ?_
    rintro e w12 ⟨x, V2, R2, b2, m2, rfl, how, hrel, hq⟩
    replace Hgb := Go.Lib.hid ((hq.block _ lgb).trans Hgb.out)
    replace lgb := Nat.lt_of_lt_of_le lgb hq.size
    replace Hgg := Go.Lib.hid ((hq.block _ lgg).trans Hgg.out)
    replace lgg := Nat.lt_of_lt_of_le lgg hq.size
    replace Hgl := Go.Lib.hid ((hq.block _ lgl).trans Hgl.out)
    replace lgl := Nat.lt_of_lt_of_le lgl hq.size
    replace Hgh := Go.Lib.hid ((hq.block _ lgh).trans Hgh.out)
    replace lgh := Nat.lt_of_lt_of_le lgh hq.size
    replace GL := Go.Lib.hid (GL.out.below hq)
    replace Nb := Go.Lib.hid ((Nb.out.below hq).mono hq.size)
    replace Ng := Go.Lib.hid ((Ng.out.below hq).mono hq.size)
    replace Nl := Go.Lib.hid ((Nl.out.below hq).mono hq.size)
    replace Nh := Go.Lib.hid ((Nh.out.below hq).mono hq.size)
    replace HB := Go.Lib.hid (HB.out.trans (hq.mono HB.out.size))
    clear cgl_0 cgl_1 cgl_2 cgh_0 cgh_1 cgh_2
    obtain ⟨e1, e2, e3, e4⟩ := or_is HO.out As.out El.out Eh.out ⟨rfl, Ol.out, Oh.out⟩ hrel
    subst e1
    subst e2
    subst e3
    subst e4
    obtain ⟨ao, ko, rfl, -⟩ := OwnN.form how
    have No := Go.Lib.hid (OwnN.bns how rfl)
    clear how hrel hq
    go_upto_region 13 with fail
    refine code_gen (R := fun wb => wb.heap[w12.heap.size]? = some (.cells #[.int .i64 V, .slice ao mg.length ko, .int .i64 Rg] 25 (0, 0)) ∧ Below w12.heap.size w12 wb) ⟨by first | exact (MapKept.heap_alloc _ _).1 | exact heap_alloc_new _ _, by go_grown⟩ ?_
    rintro w13 ⟨k, hq⟩
    have lgo : w12.heap.size < w13.heap.size := (Array.getElem?_eq_some_iff.1 k).1
    replace Hgb := Go.Lib.hid ((hq.block _ lgb).trans Hgb.out)
    replace lgb := Nat.lt_of_lt_of_le lgb hq.size
    replace Hgg := Go.Lib.hid ((hq.block _ lgg).trans Hgg.out)
    replace lgg := Nat.lt_of_lt_of_le lgg hq.size
    replace Hgl := Go.Lib.hid ((hq.block _ lgl).trans Hgl.out)
    replace lgl := Nat.lt_of_lt_of_le lgl hq.size
    replace Hgh := Go.Lib.hid ((hq.block _ lgh).trans Hgh.out)
    replace lgh := Nat.lt_of_lt_of_le lgh hq.size
    replace GL := Go.Lib.hid (GL.out.below hq)
    replace Nb := Go.Lib.hid ((Nb.out.below hq).mono hq.size)
    replace Ng := Go.Lib.hid ((Ng.out.below hq).mono hq.size)
    replace Nl := Go.Lib.hid ((Nl.out.below hq).mono hq.size)
    replace Nh := Go.Lib.hid ((Nh.out.below hq).mono hq.size)
    replace No := Go.Lib.hid ((No.out.below hq).mono hq.size)
    replace HB := Go.Lib.hid (HB.out.trans (hq.mono HB.out.size))
    obtain ⟨go, hgo⟩ : ∃ g, w12.heap.size = g := ⟨_, rfl⟩
    rw [hgo] at k lgo ⊢
    have Hgo := Go.Lib.hid k
    clear k hq hgo
    have HBX := Go.Lib.hid (show ∀ w', Below w13.heap.size w13 w' → (fun w' => w'.cell? ⟨gb, 0, none⟩ = some (.int .i64 V) ∧ w'.cell? ⟨gb, 1, none⟩ = some (.slice xa xl xc) ∧ w'.cell? ⟨gb, 2, none⟩ = some (.int .i64 Rb) ∧ w'.cell? ⟨gg, 0, none⟩ = some (.int .i64 V) ∧ w'.cell? ⟨gg, 1, none⟩ = some (.slice ag mg.length kg) ∧ w'.cell? ⟨gg, 2, none⟩ = some (.int .i64 Rg) ∧ w'.cell? ⟨gl, 0, none⟩ = some (.int .i64 V) ∧ w'.cell? ⟨gl, 1, none⟩ = some (.slice al ml.length kl) ∧ w'.cell? ⟨gl, 2, none⟩ = some (.int .i64 Rl) ∧ w'.cell? ⟨gh, 0, none⟩ = some (.int .i64 V) ∧ w'.cell? ⟨gh, 1, none⟩ = some (.slice ah mh.length kh) ∧ w'.cell? ⟨gh, 2, none⟩ = some (.int .i64 Rh) ∧ w'.cell? ⟨go, 0, none⟩ = some (.int .i64 V) ∧ w'.cell? ⟨go, 1, none⟩ = some (.slice ao mg.length ko) ∧ w'.cell? ⟨go, 2, none⟩ = some (.int .i64 Rg)) w' from fun w' hb => ⟨keepc hb lgb (cell_of_block (i := 0) Hgb.out (v := .int .i64 V) rfl), keepc hb lgb (cell_of_block (i := 1) Hgb.out (v := .slice xa xl xc) rfl), keepc hb lgb (cell_of_block (i := 2) Hgb.out (v := .int .i64 Rb) rfl), keepc hb lgg (cell_of_block (i := 0) Hgg.out (v := .int .i64 V) rfl), keepc hb lgg (cell_of_block (i := 1) Hgg.out (v := .slice ag mg.length kg) rfl), keepc hb lgg (cell_of_block (i := 2) Hgg.out (v := .int .i64 Rg) rfl), keepc hb lgl (cell_of_block (i := 0) Hgl.out (v := .int .i64 V) rfl), keepc hb lgl (cell_of_block (i := 1) Hgl.out (v := .slice al ml.length kl) rfl), keepc hb lgl (cell_of_block (i := 2) Hgl.out (v := .int .i64 Rl) rfl), keepc hb lgh (cell_of_block (i := 0) Hgh.out (v := .int .i64 V) rfl), keepc hb lgh (cell_of_block (i := 1) Hgh.out (v := .slice ah mh.length kh) rfl), keepc hb lgh (cell_of_block (i := 2) Hgh.out (v := .int .i64 Rh) rfl), keepc hb lgo (cell_of_block (i := 0) Hgo.out (v := .int .i64 V) rfl), keepc hb lgo (cell_of_block (i := 1) Hgo.out (v := .slice ao mg.length ko) rfl), keepc hb lgo (cell_of_block (i := 2) Hgo.out (v := .int .i64 Rg) rfl)⟩)
    have HQ0 := Go.Lib.hid (show Below w13.heap.size w13 w13.drew from (Below.refl _ w13).drew)
    have hS0 := HBX.out _ HQ0.out
    clear hi hv13 GL Hgb lgb Hgg lgg Hgl lgl Hgh lgh Hgo lgo
    refine wp_region_held_drew (S := (fun w' => w'.cell? ⟨gb, 0, none⟩ = some (.int .i64 V) ∧ w'.cell? ⟨gb, 1, none⟩ = some (.slice xa xl xc) ∧ w'.cell? ⟨gb, 2, none⟩ = some (.int .i64 Rb) ∧ w'.cell? ⟨gg, 0, none⟩ = some (.int .i64 V) ∧ w'.cell? ⟨gg, 1, none⟩ = some (.slice ag mg.length kg) ∧ w'.cell? ⟨gg, 2, none⟩ = some (.int .i64 Rg) ∧ w'.cell? ⟨gl, 0, none⟩ = some (.int .i64 V) ∧ w'.cell? ⟨gl, 1, none⟩ = some (.slice al ml.length kl) ∧ w'.cell? ⟨gl, 2, none⟩ = some (.int .i64 Rl) ∧ w'.cell? ⟨gh, 0, none⟩ = some (.int .i64 V) ∧ w'.cell? ⟨gh, 1, none⟩ = some (.slice ah mh.length kh) ∧ w'.cell? ⟨gh, 2, none⟩ = some (.int .i64 Rh) ∧ w'.cell? ⟨go, 0, none⟩ = some (.int .i64 V) ∧ w'.cell? ⟨go, 1, none⟩ = some (.slice ao mg.length ko) ∧ w'.cell? ⟨go, 2, none⟩ = some (.int .i64 Rg))) (by kernel_rfl) ?_ (fun hHeld => ?_)
    · first | exact hS0 | exact HBX.out _ HQ7.out | exact HBX.out _ HQ6.out | exact HBX.out _ HQ5.out | exact HBX.out _ HQ4.out | exact HBX.out _ HQ3.out | exact HBX.out _ HQ2.out | exact HBX.out _ HQ1.out | exact HBX.out _ HQ0.out
    refine tL 0 (some 64) ?_
    refine tL 1 (some 65) ?_
    refine tL 2 (some 66) ?_
    refine tL 3 (some 67) ?_
    refine tL 4 (some 68) ?_
    refine tL 5 (some 69) ?_
    refine tL 6 (some 70) ?_
    refine tL 7 (some 71) ?_
    refine tL 8 (some 72) ?_
    refine tL 9 (some 73) ?_
    refine wpAnyH_ready (rs := [10]) (by kernel_rfl) (by simp) ?_
    refine AllReadyH.cons (o := _) rfl (fun K hK => ?_) AllReadyH.nil
    go_simp
    refine (c_ldBdd (B := w13.heap.size) V Rg V Rg _ HQ0.out.size (No.out.below HQ0.out) (Ng.out.below HQ0.out)).mono ?_
    rintro e v1 ⟨hb, hq⟩
    have HQ1 := Go.Lib.hid (HQ0.out.trans (hq.mono HQ0.out.size))
    obtain rfl := boolIs_t ⟨rfl, rfl, rfl⟩ hb
    clear hb hq
    (try go_wp2_with fail)
    (try clear hHeld)
    refine hK.out _ _ ?_ (fun hHeld => ?_)
    · first | exact hS0 | exact HBX.out _ HQ7.out | exact HBX.out _ HQ6.out | exact HBX.out _ HQ5.out | exact HBX.out _ HQ4.out | exact HBX.out _ HQ3.out | exact HBX.out _ HQ2.out | exact HBX.out _ HQ1.out | exact HBX.out _ HQ0.out
    clear hK K
    (try simp only [Act.put, List.setIfInBounds_toArray, List.set_cons_zero, List.set_cons_succ])
    refine tL 11 (some 75) ?_
    refine tL 12 (some 76) ?_
    refine tL 13 (some 77) ?_
    refine tL 14 (some 78) ?_
    refine wpAnyH_ready (rs := [15]) (by kernel_rfl) (by simp) ?_
    refine AllReadyH.cons (o := _) rfl (fun K hK => ?_) AllReadyH.nil
    go_simp
    refine (c_BddUsesI (B := w13.heap.size) V Rg i _ HQ1.out.size (Ng.out.below HQ1.out)).mono ?_
    rintro e v2 ⟨hb, hq⟩
    have HQ2 := Go.Lib.hid (HQ1.out.trans (hq.mono HQ1.out.size))
    obtain rfl := boolIs_f (fun h => Us.out h.2) hb
    clear hb hq
    (try go_wp2_with fail)
    (try clear hHeld)
    refine hK.out _ _ ?_ (fun hHeld => ?_)
    · first | exact hS0 | exact HBX.out _ HQ7.out | exact HBX.out _ HQ6.out | exact HBX.out _ HQ5.out | exact HBX.out _ HQ4.out | exact HBX.out _ HQ3.out | exact HBX.out _ HQ2.out | exact HBX.out _ HQ1.out | exact HBX.out _ HQ0.out
    clear hK K
    (try simp only [Act.put, List.setIfInBounds_toArray, List.set_cons_zero, List.set_cons_succ])
    refine tL 16 (some 80) ?_
    refine tL 17 (some 81) ?_
    refine tL 18 (some 82) ?_
    refine tL 19 (some 83) ?_
    refine tL 20 (some 84) ?_
    refine wpAnyH_ready (rs := [21]) (by kernel_rfl) (by simp) ?_
    refine AllReadyH.cons (o := _) rfl (fun K hK => ?_) AllReadyH.nil
    go_simp
    refine (c_BddUsesI (B := w13.heap.size) V Rl i _ HQ2.out.size (Nl.out.below HQ2.out)).mono ?_
    rintro e v3 ⟨hb, hq⟩
    have HQ3 := Go.Lib.hid (HQ2.out.trans (hq.mono HQ2.out.size))
    obtain rfl := boolIs_f (fun h => Ul.out h.2) hb
    clear hb hq
    (try go_wp2_with fail)
    (try clear hHeld)
    refine hK.out _ _ ?_ (fun hHeld => ?_)
    · first | exact hS0 | exact HBX.out _ HQ7.out | exact HBX.out _ HQ6.out | exact HBX.out _ HQ5.out | exact HBX.out _ HQ4.out | exact HBX.out _ HQ3.out | exact HBX.out _ HQ2.out | exact HBX.out _ HQ1.out | exact HBX.out _ HQ0.out
    clear hK K
    (try simp only [Act.put, List.setIfInBounds_toArray, List.set_cons_zero, List.set_cons_succ])
    refine tL 22 (some 86) ?_
    refine tL 23 (some 87) ?_
    refine tL 24 (some 88) ?_
    refine tL 25 (some 89) ?_
    refine tL 26 (some 90) ?_
    refine wpAnyH_ready (rs := [27]) (by kernel_rfl) (by simp) ?_
    refine AllReadyH.cons (o := _) rfl (fun K hK => ?_) AllReadyH.nil
    go_simp
    refine (c_BddUsesI (B := w13.heap.size) V Rh i _ HQ3.out.size (Nh.out.below HQ3.out)).mono ?_
    rintro e v4 ⟨hb, hq⟩
    have HQ4 := Go.Lib.hid (HQ3.out.trans (hq.mono HQ3.out.size))
    obtain rfl := boolIs_f (fun h => Uh.out h.2) hb
    clear hb hq
    (try go_wp2_with fail)
    (try clear hHeld)
    refine hK.out _ _ ?_ (fun hHeld => ?_)
    · first | exact hS0 | exact HBX.out _ HQ7.out | exact HBX.out _ HQ6.out | exact HBX.out _ HQ5.out | exact HBX.out _ HQ4.out | exact HBX.out _ HQ3.out | exact HBX.out _ HQ2.out | exact HBX.out _ HQ1.out | exact HBX.out _ HQ0.out
    clear hK K
    (try simp only [Act.put, List.setIfInBounds_toArray, List.set_cons_zero, List.set_cons_succ])
    refine tL 28 (some 92) ?_
    refine tL 29 (some 93) ?_
    refine tL 30 (some 94) ?_
    refine tL 31 (some 95) ?_
    refine tL 32 (some 96) ?_
    refine tL 34 (some 98) ?_
    refine tL 35 (some 99) ?_
    refine wpAnyH_ready (rs := [33]) (by kernel_rfl) (by simp) ?_
    refine AllReadyH.cons (o := _) rfl (fun K hK => ?_) AllReadyH.nil
    go_simp
    refine (c_BddUsesI (B := w13.heap.size) V Rb i _ HQ4.out.size (Nb.out.below HQ4.out)).mono ?_
    rintro e v5 ⟨hb, hq⟩
    have HQ5 := Go.Lib.hid (HQ4.out.trans (hq.mono HQ4.out.size))
    obtain ⟨bu, rfl, hbu⟩ := hb
    have HBU := Go.Lib.hid hbu
    clear hbu hq
    (try go_wp2_with fail)
    (try clear hHeld)
    refine hK.out _ _ ?_ (fun hHeld => ?_)
    · first | exact hS0 | exact HBX.out _ HQ7.out | exact HBX.out _ HQ6.out | exact HBX.out _ HQ5.out | exact HBX.out _ HQ4.out | exact HBX.out _ HQ3.out | exact HBX.out _ HQ2.out | exact HBX.out _ HQ1.out | exact HBX.out _ HQ0.out
    clear hK K
    (try simp only [Act.put, List.setIfInBounds_toArray, List.set_cons_zero, List.set_cons_succ])
    refine wpAnyH_ready (rs := [36]) (by kernel_rfl) (by simp) ?_
    refine AllReadyH.cons (o := _) rfl (fun K hK => ?_) AllReadyH.nil
    go_simp
    refine (c_ldBdd (B := w13.heap.size) V Rl V Rh _ HQ5.out.size (Nl.out.below HQ5.out) (Nh.out.below HQ5.out)).mono ?_
    rintro e v6 ⟨hb, hq⟩
    have HQ6 := Go.Lib.hid (HQ5.out.trans (hq.mono HQ5.out.size))
    obtain ⟨bl, rfl, hbl⟩ := hb
    have hbb : (bu == !bl) = true := use_same HO.out HI.out Al.out Ah.out El.out Eh.out HBU.out hbl
    clear hbl hq
    (try go_wp2_with fail)
    (try clear hHeld)
    refine hK.out _ _ ?_ (fun hHeld => ?_)
    · first | exact hS0 | exact HBX.out _ HQ7.out | exact HBX.out _ HQ6.out | exact HBX.out _ HQ5.out | exact HBX.out _ HQ4.out | exact HBX.out _ HQ3.out | exact HBX.out _ HQ2.out | exact HBX.out _ HQ1.out | exact HBX.out _ HQ0.out
    clear hK K
    (try simp only [Act.put, List.setIfInBounds_toArray, List.set_cons_zero, List.set_cons_succ])
    refine tL 37 (some 101) ?_
    refine tL 38 (some 102) ?_
    refine tL 39 (some 103) ?_
    refine tL 40 (some 2) ?_
    refine wpAnyH_done (by kernel_rfl) ?_ _
    clear hHeld
    go_wp2_with fail
    go_ret
    exact ⟨by first | rfl | rw [hbb] | simp [hbb], HB.out.trans (HQ6.out.mono HB.out.size)⟩
end Go.Proofs.YthdofdglbdfkkaaDoor
