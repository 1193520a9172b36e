/-
  The law FnDiagrams: sets obey the laws of sets, and one set has one diagram.
-/
import Derived.Test.YthdofdglbdfkkaaDoorRows
import Derived.Test.YthdofdglbdfkkaaDoorPaA
import Derived.Test.YthdofdglbdfkkaaDoorG0
import Derived.Test.YthdofdglbdfkkaaDoorRd
import Derived.Test.YthdofdglbdfkkaaDoorBdV
import Derived.Test.YthdofdglbdfkkaaDoorFpB
import Derived.Test.YthdofdglbdfkkaaDoorFpL
import Derived.Test.YthdofdglbdfkkaaDoorFpE
import Derived.Test.YthdofdglbdfkkaaDoorFpD
import Derived.Test.YthdofdglbdfkkaaDoorFoE
import Derived.Test.YthdofdglbdfkkaaDoorFoG
import Derived.Test.YthdofdglbdfkkaaDoorLawD0
import Derived.WalkKit
import Derived.ProofKit
import Derived.OpenShut
import Derived.WalkSpells
import Derived.WalkLawsBesides
import Derived.Outline
import Derived.BigQuiet
import Derived.Handy
import Derived.LoopTactic
import Derived.Deep.Light
import Derived.Deep.RegionWith
import Derived.Deep.RegionHeld3
import Derived.Deep.DeepCutAuto
import Derived.Lib.Hide
import Derived.Maps.OwnRows
import Derived.Deep.Onto
import Derived.OneCell
import Derived.StillTailTactics
import Derived.Deep.AppendLies
import Derived.Deep.RegionLaw
namespace Go.Proofs.YthdofdglbdfkkaaDoor
open Go.ChangeShapes Go.WideShapes Go.ChangeAt Go.RowKit Go.Maps Go.ChangeMaps
set_option linter.unusedVariables false
set_option maxRecDepth 100000

set_option maxHeartbeats 32000000 in
theorem w_FnDiagrams {a1 : Option Addr} {len1 cap1 : Nat} {a2 : Option Addr} {len2 cap2 : Nat} (W : World) (hgl : Glob W) (h1 : BytesAt W.heap.size W a1 len1 cap1) (h2 : BytesAt W.heap.size W a2 len2 cap2) :
    Calls Tryd.prog 6 #[.slice a1 len1 cap1, .slice a2 len2 cap2] W fun e w' => e = .returned (.bool true) ∧ Below W.heap.size W w' := by
  have GL := Go.Lib.hid hgl
  have HC := Go.Lib.hid h1
  have HM := Go.Lib.hid h2
  have hm1 : (len1 : Int) ≤ 9223372036854775807 := by have h3 := h1.1; have h4 := h1.2.1; unfold maxLen at h4; omega
  have hm2 : (len2 : Int) ≤ 9223372036854775807 := by have h3 := h2.1; have h4 := h2.2.1; unfold maxLen at h4; omega
  clear hgl h1 h2
  go_enter Tryd.func6, Tryd.ntmps6
  by_cases hl1 : 1048576 < len1
  · have hi1 : (1048576 : Int) < len1 := by omega
    go_wp2_with fail
    go_ret
    exact ⟨rfl, Below.refl _ _⟩
  have hi1 : ¬ (1048576 : Int) < len1 := by omega
  by_cases hl2 : 1048576 < len2
  · have hi2 : (1048576 : Int) < len2 := by omega
    go_wp2_with fail
    go_ret
    exact ⟨rfl, Below.refl _ _⟩
  have hi2 : ¬ (1048576 : Int) < len2 := by omega
  go_wp2_with fail
  refine (c_ldByte (B := W.heap.size) 0 W HM.out (by omega) (by omega)).mono ?_
  rintro e w1 ⟨v, rfl, hv0, hv1, hq⟩
  replace GL := Go.Lib.hid (GL.out.below hq)
  have HB := Go.Lib.hid hq
  clear hq
  have e6 : v.tmod 6 = v % 6 := Int.tmod_eq_emod_of_nonneg hv0
  go_upto_region 4 with fail
  obtain ⟨n, hn⟩ : ∃ n : Int, 1 + v % 6 = n := ⟨_, rfl⟩
  rw [hn]
  have hn0 : 0 ≤ n := by omega
  have hn6 : n ≤ 6 := by omega
  clear hn e6 hv0 hv1
  go_wp2_with fail
  refine (c_GoodSet (B := W.heap.size) n w1 (HC.out.below HB.out) HB.out.size hn0 (by omega)).mono ?_
  rintro e w2 ⟨x, Ra, ma, rfl, how, ⟨f, hf⟩, hq⟩
  replace GL := Go.Lib.hid (GL.out.below hq)
  replace HB := Go.Lib.hid (HB.out.trans (hq.mono HB.out.size))
  obtain ⟨aa, ka, rfl, -⟩ := OwnN.form how
  have Aa := Go.Lib.hid (hf.self ⟨hn0, by omega⟩)
  have Oa := Go.Lib.hid (hf.is ⟨hn0, by omega⟩).2.1
  have Na := Go.Lib.hid (OwnN.bns how rfl)
  clear how hf hq f
  go_upto_region 5 with fail
  refine code_gen (R := fun wb => wb.heap[w2.heap.size]? = some (.cells #[.int .i64 n, .slice aa ma.length ka, .int .i64 Ra] 25 (0, 0)) ∧ Below w2.heap.size w2 wb) ⟨by first | exact (MapKept.heap_alloc _ _).1 | exact heap_alloc_new _ _, by go_grown⟩ ?_
  rintro w3 ⟨k, hq⟩
  have lga : w2.heap.size < w3.heap.size := (Array.getElem?_eq_some_iff.1 k).1
  replace GL := Go.Lib.hid (GL.out.below hq)
  replace Na := Go.Lib.hid ((Na.out.below hq).mono hq.size)
  replace HB := Go.Lib.hid (HB.out.trans (hq.mono HB.out.size))
  obtain ⟨ga, hga⟩ : ∃ g, w2.heap.size = g := ⟨_, rfl⟩
  rw [hga] at k lga ⊢
  have Hga := Go.Lib.hid k
  clear k hq hga
  go_wp2_with fail
  refine (c_GoodSet (B := W.heap.size) n w3 (HM.out.below HB.out) HB.out.size hn0 (by omega)).mono ?_
  rintro e w4 ⟨x, Rb, mb, rfl, how, ⟨f, hf⟩, hq⟩
  replace Hga := Go.Lib.hid ((hq.block _ lga).trans Hga.out)
  replace lga := Nat.lt_of_lt_of_le lga hq.size
  replace GL := Go.Lib.hid (GL.out.below hq)
  replace Na := Go.Lib.hid ((Na.out.below hq).mono hq.size)
  replace HB := Go.Lib.hid (HB.out.trans (hq.mono HB.out.size))
  obtain ⟨ab, kb, rfl, -⟩ := OwnN.form how
  have Ab := Go.Lib.hid (hf.self ⟨hn0, by omega⟩)
  have Ob := Go.Lib.hid (hf.is ⟨hn0, by omega⟩).2.1
  have Nb := Go.Lib.hid (OwnN.bns how rfl)
  clear how hf hq f
  go_upto_region 6 with fail
  refine code_gen (R := fun wb => wb.heap[w4.heap.size]? = some (.cells #[.int .i64 n, .slice ab mb.length kb, .int .i64 Rb] 25 (0, 0)) ∧ Below w4.heap.size w4 wb) ⟨by first | exact (MapKept.heap_alloc _ _).1 | exact heap_alloc_new _ _, by go_grown⟩ ?_
  rintro w5 ⟨k, hq⟩
  have lgb : w4.heap.size < w5.heap.size := (Array.getElem?_eq_some_iff.1 k).1
  replace Hga := Go.Lib.hid ((hq.block _ lga).trans Hga.out)
  replace lga := Nat.lt_of_lt_of_le lga hq.size
  replace GL := Go.Lib.hid (GL.out.below hq)
  replace Na := Go.Lib.hid ((Na.out.below hq).mono hq.size)
  replace Nb := Go.Lib.hid ((Nb.out.below hq).mono hq.size)
  replace HB := Go.Lib.hid (HB.out.trans (hq.mono HB.out.size))
  obtain ⟨gb, hgb⟩ : ∃ g, w4.heap.size = g := ⟨_, rfl⟩
  rw [hgb] at k lgb ⊢
  have Hgb := Go.Lib.hid k
  clear k hq hgb
  have cga_0 := cell_of_block (i := 0) Hga.out (v := .int .i64 n) rfl
  have cga_1 := cell_of_block (i := 1) Hga.out (v := .slice aa ma.length ka) rfl
  have cga_2 := cell_of_block (i := 2) Hga.out (v := .int .i64 Ra) rfl
  go_wp2_with fail
  refine (c_BddNotI n Ra w5 GL.out (Nat.le_refl _) Na.out).mono ?_
  rintro e w6 ⟨x, V, Rna, b, mna, rfl, how, hrel, hq⟩
  replace Hga := Go.Lib.hid ((hq.block _ lga).trans Hga.out)
  replace lga := Nat.lt_of_lt_of_le lga hq.size
  replace Hgb := Go.Lib.hid ((hq.block _ lgb).trans Hgb.out)
  replace lgb := Nat.lt_of_lt_of_le lgb hq.size
  replace GL := Go.Lib.hid (GL.out.below hq)
  replace Na := Go.Lib.hid ((Na.out.below hq).mono hq.size)
  replace Nb := Go.Lib.hid ((Nb.out.below hq).mono hq.size)
  replace HB := Go.Lib.hid (HB.out.trans (hq.mono HB.out.size))
  clear cga_0 cga_1 cga_2
  obtain ⟨e1, e2, e3, e4, e5⟩ := hrel.few (Oa.out) ⟨hn0, hn6⟩
  subst e1
  subst e2
  obtain ⟨ana, kna, rfl, -⟩ := OwnN.form how
  have Ana := Go.Lib.hid e3
  have Ona := Go.Lib.hid e4
  have Ena := Go.Lib.hid e5
  have Nna := Go.Lib.hid (OwnN.bns how rfl)
  clear how hrel hq e3 e4 e5
  go_upto_region 7 with fail
  refine code_gen (R := fun wb => wb.heap[w6.heap.size]? = some (.cells #[.int .i64 n, .slice ana mna.length kna, .int .i64 Rna] 25 (0, 0)) ∧ Below w6.heap.size w6 wb) ⟨by first | exact (MapKept.heap_alloc _ _).1 | exact heap_alloc_new _ _, by go_grown⟩ ?_
  rintro w7 ⟨k, hq⟩
  have lgna : w6.heap.size < w7.heap.size := (Array.getElem?_eq_some_iff.1 k).1
  replace Hga := Go.Lib.hid ((hq.block _ lga).trans Hga.out)
  replace lga := Nat.lt_of_lt_of_le lga hq.size
  replace Hgb := Go.Lib.hid ((hq.block _ lgb).trans Hgb.out)
  replace lgb := Nat.lt_of_lt_of_le lgb hq.size
  replace GL := Go.Lib.hid (GL.out.below hq)
  replace Na := Go.Lib.hid ((Na.out.below hq).mono hq.size)
  replace Nb := Go.Lib.hid ((Nb.out.below hq).mono hq.size)
  replace Nna := Go.Lib.hid ((Nna.out.below hq).mono hq.size)
  replace HB := Go.Lib.hid (HB.out.trans (hq.mono HB.out.size))
  obtain ⟨gna, hgna⟩ : ∃ g, w6.heap.size = g := ⟨_, rfl⟩
  rw [hgna] at k lgna ⊢
  have Hgna := Go.Lib.hid k
  clear k hq hgna
  have cgb_0 := cell_of_block (i := 0) Hgb.out (v := .int .i64 n) rfl
  have cgb_1 := cell_of_block (i := 1) Hgb.out (v := .slice ab mb.length kb) rfl
  have cgb_2 := cell_of_block (i := 2) Hgb.out (v := .int .i64 Rb) rfl
  go_wp2_with fail
  refine (c_BddNotI n Rb w7 GL.out (Nat.le_refl _) Nb.out).mono ?_
  rintro e w8 ⟨x, V, Rnb, b, mnb, rfl, how, hrel, hq⟩
  replace Hga := Go.Lib.hid ((hq.block _ lga).trans Hga.out)
  replace lga := Nat.lt_of_lt_of_le lga hq.size
  replace Hgb := Go.Lib.hid ((hq.block _ lgb).trans Hgb.out)
  replace lgb := Nat.lt_of_lt_of_le lgb hq.size
  replace Hgna := Go.Lib.hid ((hq.block _ lgna).trans Hgna.out)
  replace lgna := Nat.lt_of_lt_of_le lgna hq.size
  replace GL := Go.Lib.hid (GL.out.below hq)
  replace Na := Go.Lib.hid ((Na.out.below hq).mono hq.size)
  replace Nb := Go.Lib.hid ((Nb.out.below hq).mono hq.size)
  replace Nna := Go.Lib.hid ((Nna.out.below hq).mono hq.size)
  replace HB := Go.Lib.hid (HB.out.trans (hq.mono HB.out.size))
  clear cgb_0 cgb_1 cgb_2
  obtain ⟨e1, e2, e3, e4, e5⟩ := hrel.few (Ob.out) ⟨hn0, hn6⟩
  subst e1
  subst e2
  obtain ⟨anb, knb, rfl, -⟩ := OwnN.form how
  have Anb := Go.Lib.hid e3
  have Onb := Go.Lib.hid e4
  have Enb := Go.Lib.hid e5
  have Nnb := Go.Lib.hid (OwnN.bns how rfl)
  clear how hrel hq e3 e4 e5
  go_upto_region 8 with fail
  refine code_gen (R := fun wb => wb.heap[w8.heap.size]? = some (.cells #[.int .i64 n, .slice anb mnb.length knb, .int .i64 Rnb] 25 (0, 0)) ∧ Below w8.heap.size w8 wb) ⟨by first | exact (MapKept.heap_alloc _ _).1 | exact heap_alloc_new _ _, by go_grown⟩ ?_
  rintro w9 ⟨k, hq⟩
  have lgnb : w8.heap.size < w9.heap.size := (Array.getElem?_eq_some_iff.1 k).1
  replace Hga := Go.Lib.hid ((hq.block _ lga).trans Hga.out)
  replace lga := Nat.lt_of_lt_of_le lga hq.size
  replace Hgb := Go.Lib.hid ((hq.block _ lgb).trans Hgb.out)
  replace lgb := Nat.lt_of_lt_of_le lgb hq.size
  replace Hgna := Go.Lib.hid ((hq.block _ lgna).trans Hgna.out)
  replace lgna := Nat.lt_of_lt_of_le lgna hq.size
  replace GL := Go.Lib.hid (GL.out.below hq)
  replace Na := Go.Lib.hid ((Na.out.below hq).mono hq.size)
  replace Nb := Go.Lib.hid ((Nb.out.below hq).mono hq.size)
  replace Nna := Go.Lib.hid ((Nna.out.below hq).mono hq.size)
  replace Nnb := Go.Lib.hid ((Nnb.out.below hq).mono hq.size)
  replace HB := Go.Lib.hid (HB.out.trans (hq.mono HB.out.size))
  obtain ⟨gnb, hgnb⟩ : ∃ g, w8.heap.size = g := ⟨_, rfl⟩
  rw [hgnb] at k lgnb ⊢
  have Hgnb := Go.Lib.hid k
  clear k hq hgnb
  have cga_0 := cell_of_block (i := 0) Hga.out (v := .int .i64 n) rfl
  have cga_1 := cell_of_block (i := 1) Hga.out (v := .slice aa ma.length ka) rfl
  have cga_2 := cell_of_block (i := 2) Hga.out (v := .int .i64 Ra) rfl
  have cgb_0 := cell_of_block (i := 0) Hgb.out (v := .int .i64 n) rfl
  have cgb_1 := cell_of_block (i := 1) Hgb.out (v := .slice ab mb.length kb) rfl
  have cgb_2 := cell_of_block (i := 2) Hgb.out (v := .int .i64 Rb) rfl
  go_wp2_with fail
  refine (c_BddAndI n Ra n Rb w9 GL.out (Nat.le_refl _) Na.out Nb.out).mono ?_
  rintro e w10 ⟨x, V, Ran, b, man, rfl, how, hrel, hq⟩
  replace Hga := Go.Lib.hid ((hq.block _ lga).trans Hga.out)
  replace lga := Nat.lt_of_lt_of_le lga hq.size
  replace Hgb := Go.Lib.hid ((hq.block _ lgb).trans Hgb.out)
  replace lgb := Nat.lt_of_lt_of_le lgb hq.size
  replace Hgna := Go.Lib.hid ((hq.block _ lgna).trans Hgna.out)
  replace lgna := Nat.lt_of_lt_of_le lgna hq.size
  replace Hgnb := Go.Lib.hid ((hq.block _ lgnb).trans Hgnb.out)
  replace lgnb := Nat.lt_of_lt_of_le lgnb hq.size
  replace GL := Go.Lib.hid (GL.out.below hq)
  replace Na := Go.Lib.hid ((Na.out.below hq).mono hq.size)
  replace Nb := Go.Lib.hid ((Nb.out.below hq).mono hq.size)
  replace Nna := Go.Lib.hid ((Nna.out.below hq).mono hq.size)
  replace Nnb := Go.Lib.hid ((Nnb.out.below hq).mono hq.size)
  replace HB := Go.Lib.hid (HB.out.trans (hq.mono HB.out.size))
  clear cga_0 cga_1 cga_2 cgb_0 cgb_1 cgb_2
  obtain ⟨e1, e2, e3, e4, e5⟩ := hrel.few (⟨rfl, Oa.out, Ob.out⟩) ⟨hn0, hn6⟩
  subst e1
  subst e2
  obtain ⟨aan, kan, rfl, -⟩ := OwnN.form how
  have Aan := Go.Lib.hid e3
  have Oan := Go.Lib.hid e4
  have Ean := Go.Lib.hid e5
  have Nan := Go.Lib.hid (OwnN.bns how rfl)
  clear how hrel hq e3 e4 e5
  go_upto_region 9 with fail
  refine code_gen (R := fun wb => wb.heap[w10.heap.size]? = some (.cells #[.int .i64 n, .slice aan man.length kan, .int .i64 Ran] 25 (0, 0)) ∧ Below w10.heap.size w10 wb) ⟨by first | exact (MapKept.heap_alloc _ _).1 | exact heap_alloc_new _ _, by go_grown⟩ ?_
  rintro w11 ⟨k, hq⟩
  have lgan : w10.heap.size < w11.heap.size := (Array.getElem?_eq_some_iff.1 k).1
  replace Hga := Go.Lib.hid ((hq.block _ lga).trans Hga.out)
  replace lga := Nat.lt_of_lt_of_le lga hq.size
  replace Hgb := Go.Lib.hid ((hq.block _ lgb).trans Hgb.out)
  replace lgb := Nat.lt_of_lt_of_le lgb hq.size
  replace Hgna := Go.Lib.hid ((hq.block _ lgna).trans Hgna.out)
  replace lgna := Nat.lt_of_lt_of_le lgna hq.size
  replace Hgnb := Go.Lib.hid ((hq.block _ lgnb).trans Hgnb.out)
  replace lgnb := Nat.lt_of_lt_of_le lgnb hq.size
  replace GL := Go.Lib.hid (GL.out.below hq)
  replace Na := Go.Lib.hid ((Na.out.below hq).mono hq.size)
  replace Nb := Go.Lib.hid ((Nb.out.below hq).mono hq.size)
  replace Nna := Go.Lib.hid ((Nna.out.below hq).mono hq.size)
  replace Nnb := Go.Lib.hid ((Nnb.out.below hq).mono hq.size)
  replace Nan := Go.Lib.hid ((Nan.out.below hq).mono hq.size)
  replace HB := Go.Lib.hid (HB.out.trans (hq.mono HB.out.size))
  obtain ⟨gan, hgan⟩ : ∃ g, w10.heap.size = g := ⟨_, rfl⟩
  rw [hgan] at k lgan ⊢
  have Hgan := Go.Lib.hid k
  clear k hq hgan
  have cga_0 := cell_of_block (i := 0) Hga.out (v := .int .i64 n) rfl
  have cga_1 := cell_of_block (i := 1) Hga.out (v := .slice aa ma.length ka) rfl
  have cga_2 := cell_of_block (i := 2) Hga.out (v := .int .i64 Ra) rfl
  have cgb_0 := cell_of_block (i := 0) Hgb.out (v := .int .i64 n) rfl
  have cgb_1 := cell_of_block (i := 1) Hgb.out (v := .slice ab mb.length kb) rfl
  have cgb_2 := cell_of_block (i := 2) Hgb.out (v := .int .i64 Rb) rfl
  go_wp2_with fail
  refine (c_BddOrI n Ra n Rb w11 GL.out (Nat.le_refl _) Na.out Nb.out).mono ?_
  rintro e w12 ⟨x, V, Ror, b, mor, rfl, how, hrel, hq⟩
  replace Hga := Go.Lib.hid ((hq.block _ lga).trans Hga.out)
  replace lga := Nat.lt_of_lt_of_le lga hq.size
  replace Hgb := Go.Lib.hid ((hq.block _ lgb).trans Hgb.out)
  replace lgb := Nat.lt_of_lt_of_le lgb hq.size
  replace Hgna := Go.Lib.hid ((hq.block _ lgna).trans Hgna.out)
  replace lgna := Nat.lt_of_lt_of_le lgna hq.size
  replace Hgnb := Go.Lib.hid ((hq.block _ lgnb).trans Hgnb.out)
  replace lgnb := Nat.lt_of_lt_of_le lgnb hq.size
  replace Hgan := Go.Lib.hid ((hq.block _ lgan).trans Hgan.out)
  replace lgan := Nat.lt_of_lt_of_le lgan hq.size
  replace GL := Go.Lib.hid (GL.out.below hq)
  replace Na := Go.Lib.hid ((Na.out.below hq).mono hq.size)
  replace Nb := Go.Lib.hid ((Nb.out.below hq).mono hq.size)
  replace Nna := Go.Lib.hid ((Nna.out.below hq).mono hq.size)
  replace Nnb := Go.Lib.hid ((Nnb.out.below hq).mono hq.size)
  replace Nan := Go.Lib.hid ((Nan.out.below hq).mono hq.size)
  replace HB := Go.Lib.hid (HB.out.trans (hq.mono HB.out.size))
  clear cga_0 cga_1 cga_2 cgb_0 cgb_1 cgb_2
  obtain ⟨e1, e2, e3, e4, e5⟩ := hrel.few (⟨rfl, Oa.out, Ob.out⟩) ⟨hn0, hn6⟩
  subst e1
  subst e2
  obtain ⟨aor, kor, rfl, -⟩ := OwnN.form how
  have Aor := Go.Lib.hid e3
  have Oor := Go.Lib.hid e4
  have Eor := Go.Lib.hid e5
  have Nor := Go.Lib.hid (OwnN.bns how rfl)
  clear how hrel hq e3 e4 e5
  go_upto_region 10 with fail
  refine code_gen (R := fun wb => wb.heap[w12.heap.size]? = some (.cells #[.int .i64 n, .slice aor mor.length kor, .int .i64 Ror] 25 (0, 0)) ∧ Below w12.heap.size w12 wb) ⟨by first | exact (MapKept.heap_alloc _ _).1 | exact heap_alloc_new _ _, by go_grown⟩ ?_
  rintro w13 ⟨k, hq⟩
  have lgor : w12.heap.size < w13.heap.size := (Array.getElem?_eq_some_iff.1 k).1
  replace Hga := Go.Lib.hid ((hq.block _ lga).trans Hga.out)
  replace lga := Nat.lt_of_lt_of_le lga hq.size
  replace Hgb := Go.Lib.hid ((hq.block _ lgb).trans Hgb.out)
  replace lgb := Nat.lt_of_lt_of_le lgb hq.size
  replace Hgna := Go.Lib.hid ((hq.block _ lgna).trans Hgna.out)
  replace lgna := Nat.lt_of_lt_of_le lgna hq.size
  replace Hgnb := Go.Lib.hid ((hq.block _ lgnb).trans Hgnb.out)
  replace lgnb := Nat.lt_of_lt_of_le lgnb hq.size
  replace Hgan := Go.Lib.hid ((hq.block _ lgan).trans Hgan.out)
  replace lgan := Nat.lt_of_lt_of_le lgan hq.size
  replace GL := Go.Lib.hid (GL.out.below hq)
  replace Na := Go.Lib.hid ((Na.out.below hq).mono hq.size)
  replace Nb := Go.Lib.hid ((Nb.out.below hq).mono hq.size)
  replace Nna := Go.Lib.hid ((Nna.out.below hq).mono hq.size)
  replace Nnb := Go.Lib.hid ((Nnb.out.below hq).mono hq.size)
  replace Nan := Go.Lib.hid ((Nan.out.below hq).mono hq.size)
  replace Nor := Go.Lib.hid ((Nor.out.below hq).mono hq.size)
  replace HB := Go.Lib.hid (HB.out.trans (hq.mono HB.out.size))
  obtain ⟨gor, hgor⟩ : ∃ g, w12.heap.size = g := ⟨_, rfl⟩
  rw [hgor] at k lgor ⊢
  have Hgor := Go.Lib.hid k
  clear k hq hgor
  have cga_0 := cell_of_block (i := 0) Hga.out (v := .int .i64 n) rfl
  have cga_1 := cell_of_block (i := 1) Hga.out (v := .slice aa ma.length ka) rfl
  have cga_2 := cell_of_block (i := 2) Hga.out (v := .int .i64 Ra) rfl
  have cgb_0 := cell_of_block (i := 0) Hgb.out (v := .int .i64 n) rfl
  have cgb_1 := cell_of_block (i := 1) Hgb.out (v := .slice ab mb.length kb) rfl
  have cgb_2 := cell_of_block (i := 2) Hgb.out (v := .int .i64 Rb) rfl
  go_wp2_with fail
  refine (c_BddXorI n Ra n Rb w13 GL.out (Nat.le_refl _) Na.out Nb.out).mono ?_
  rintro e w14 ⟨x, V, Rxo, b, mxo, rfl, how, hrel, hq⟩
  replace Hga := Go.Lib.hid ((hq.block _ lga).trans Hga.out)
  replace lga := Nat.lt_of_lt_of_le lga hq.size
  replace Hgb := Go.Lib.hid ((hq.block _ lgb).trans Hgb.out)
  replace lgb := Nat.lt_of_lt_of_le lgb hq.size
  replace Hgna := Go.Lib.hid ((hq.block _ lgna).trans Hgna.out)
  replace lgna := Nat.lt_of_lt_of_le lgna hq.size
  replace Hgnb := Go.Lib.hid ((hq.block _ lgnb).trans Hgnb.out)
  replace lgnb := Nat.lt_of_lt_of_le lgnb hq.size
  replace Hgan := Go.Lib.hid ((hq.block _ lgan).trans Hgan.out)
  replace lgan := Nat.lt_of_lt_of_le lgan hq.size
  replace Hgor := Go.Lib.hid ((hq.block _ lgor).trans Hgor.out)
  replace lgor := Nat.lt_of_lt_of_le lgor hq.size
  replace GL := Go.Lib.hid (GL.out.below hq)
  replace Na := Go.Lib.hid ((Na.out.below hq).mono hq.size)
  replace Nb := Go.Lib.hid ((Nb.out.below hq).mono hq.size)
  replace Nna := Go.Lib.hid ((Nna.out.below hq).mono hq.size)
  replace Nnb := Go.Lib.hid ((Nnb.out.below hq).mono hq.size)
  replace Nan := Go.Lib.hid ((Nan.out.below hq).mono hq.size)
  replace Nor := Go.Lib.hid ((Nor.out.below hq).mono hq.size)
  replace HB := Go.Lib.hid (HB.out.trans (hq.mono HB.out.size))
  clear cga_0 cga_1 cga_2 cgb_0 cgb_1 cgb_2
  obtain ⟨e1, e2, e3, e4, e5⟩ := hrel.few (⟨rfl, Oa.out, Ob.out⟩) ⟨hn0, hn6⟩
  subst e1
  subst e2
  obtain ⟨axo, kxo, rfl, -⟩ := OwnN.form how
  have Axo := Go.Lib.hid e3
  have Oxo := Go.Lib.hid e4
  have Exo := Go.Lib.hid e5
  have Nxo := Go.Lib.hid (OwnN.bns how rfl)
  clear how hrel hq e3 e4 e5
  go_upto_region 11 with fail
  refine code_gen (R := fun wb => wb.heap[w14.heap.size]? = some (.cells #[.int .i64 n, .slice axo mxo.length kxo, .int .i64 Rxo] 25 (0, 0)) ∧ Below w14.heap.size w14 wb) ⟨by first | exact (MapKept.heap_alloc _ _).1 | exact heap_alloc_new _ _, by go_grown⟩ ?_
  rintro w15 ⟨k, hq⟩
  have lgxo : w14.heap.size < w15.heap.size := (Array.getElem?_eq_some_iff.1 k).1
  replace Hga := Go.Lib.hid ((hq.block _ lga).trans Hga.out)
  replace lga := Nat.lt_of_lt_of_le lga hq.size
  replace Hgb := Go.Lib.hid ((hq.block _ lgb).trans Hgb.out)
  replace lgb := Nat.lt_of_lt_of_le lgb hq.size
  replace Hgna := Go.Lib.hid ((hq.block _ lgna).trans Hgna.out)
  replace lgna := Nat.lt_of_lt_of_le lgna hq.size
  replace Hgnb := Go.Lib.hid ((hq.block _ lgnb).trans Hgnb.out)
  replace lgnb := Nat.lt_of_lt_of_le lgnb hq.size
  replace Hgan := Go.Lib.hid ((hq.block _ lgan).trans Hgan.out)
  replace lgan := Nat.lt_of_lt_of_le lgan hq.size
  replace Hgor := Go.Lib.hid ((hq.block _ lgor).trans Hgor.out)
  replace lgor := Nat.lt_of_lt_of_le lgor hq.size
  replace GL := Go.Lib.hid (GL.out.below hq)
  replace Na := Go.Lib.hid ((Na.out.below hq).mono hq.size)
  replace Nb := Go.Lib.hid ((Nb.out.below hq).mono hq.size)
  replace Nna := Go.Lib.hid ((Nna.out.below hq).mono hq.size)
  replace Nnb := Go.Lib.hid ((Nnb.out.below hq).mono hq.size)
  replace Nan := Go.Lib.hid ((Nan.out.below hq).mono hq.size)
  replace Nor := Go.Lib.hid ((Nor.out.below hq).mono hq.size)
  replace Nxo := Go.Lib.hid ((Nxo.out.below hq).mono hq.size)
  replace HB := Go.Lib.hid (HB.out.trans (hq.mono HB.out.size))
  obtain ⟨gxo, hgxo⟩ : ∃ g, w14.heap.size = g := ⟨_, rfl⟩
  rw [hgxo] at k lgxo ⊢
  have Hgxo := Go.Lib.hid k
  clear k hq hgxo
  have cgan_0 := cell_of_block (i := 0) Hgan.out (v := .int .i64 n) rfl
  have cgan_1 := cell_of_block (i := 1) Hgan.out (v := .slice aan man.length kan) rfl
  have cgan_2 := cell_of_block (i := 2) Hgan.out (v := .int .i64 Ran) rfl
  go_wp2_with fail
  refine (c_BddOkI n Ran w15 (Nat.le_refl _) Nan.out).mono ?_
  rintro e w16 ⟨hb, hq⟩
  replace Hga := Go.Lib.hid ((hq.block _ lga).trans Hga.out)
  replace lga := Nat.lt_of_lt_of_le lga hq.size
  replace Hgb := Go.Lib.hid ((hq.block _ lgb).trans Hgb.out)
  replace lgb := Nat.lt_of_lt_of_le lgb hq.size
  replace Hgna := Go.Lib.hid ((hq.block _ lgna).trans Hgna.out)
  replace lgna := Nat.lt_of_lt_of_le lgna hq.size
  replace Hgnb := Go.Lib.hid ((hq.block _ lgnb).trans Hgnb.out)
  replace lgnb := Nat.lt_of_lt_of_le lgnb hq.size
  replace Hgan := Go.Lib.hid ((hq.block _ lgan).trans Hgan.out)
  replace lgan := Nat.lt_of_lt_of_le lgan hq.size
  replace Hgor := Go.Lib.hid ((hq.block _ lgor).trans Hgor.out)
  replace lgor := Nat.lt_of_lt_of_le lgor hq.size
  replace Hgxo := Go.Lib.hid ((hq.block _ lgxo).trans Hgxo.out)
  replace lgxo := Nat.lt_of_lt_of_le lgxo hq.size
  replace GL := Go.Lib.hid (GL.out.below hq)
  replace Na := Go.Lib.hid ((Na.out.below hq).mono hq.size)
  replace Nb := Go.Lib.hid ((Nb.out.below hq).mono hq.size)
  replace Nna := Go.Lib.hid ((Nna.out.below hq).mono hq.size)
  replace Nnb := Go.Lib.hid ((Nnb.out.below hq).mono hq.size)
  replace Nan := Go.Lib.hid ((Nan.out.below hq).mono hq.size)
  replace Nor := Go.Lib.hid ((Nor.out.below hq).mono hq.size)
  replace Nxo := Go.Lib.hid ((Nxo.out.below hq).mono hq.size)
  replace HB := Go.Lib.hid (HB.out.trans (hq.mono HB.out.size))
  clear cgan_0 cgan_1 cgan_2
  obtain rfl := boolIs_t Oan.out hb
  clear hb hq
  have cgor_0 := cell_of_block (i := 0) Hgor.out (v := .int .i64 n) rfl
  have cgor_1 := cell_of_block (i := 1) Hgor.out (v := .slice aor mor.length kor) rfl
  have cgor_2 := cell_of_block (i := 2) Hgor.out (v := .int .i64 Ror) rfl
  go_wp2_with fail
  refine (c_BddOkI n Ror w16 (Nat.le_refl _) Nor.out).mono ?_
  rintro e w17 ⟨hb, hq⟩
  replace Hga := Go.Lib.hid ((hq.block _ lga).trans Hga.out)
  replace lga := Nat.lt_of_lt_of_le lga hq.size
  replace Hgb := Go.Lib.hid ((hq.block _ lgb).trans Hgb.out)
  replace lgb := Nat.lt_of_lt_of_le lgb hq.size
  replace Hgna := Go.Lib.hid ((hq.block _ lgna).trans Hgna.out)
  replace lgna := Nat.lt_of_lt_of_le lgna hq.size
  replace Hgnb := Go.Lib.hid ((hq.block _ lgnb).trans Hgnb.out)
  replace lgnb := Nat.lt_of_lt_of_le lgnb hq.size
  replace Hgan := Go.Lib.hid ((hq.block _ lgan).trans Hgan.out)
  replace lgan := Nat.lt_of_lt_of_le lgan hq.size
  replace Hgor := Go.Lib.hid ((hq.block _ lgor).trans Hgor.out)
  replace lgor := Nat.lt_of_lt_of_le lgor hq.size
  replace Hgxo := Go.Lib.hid ((hq.block _ lgxo).trans Hgxo.out)
  replace lgxo := Nat.lt_of_lt_of_le lgxo hq.size
  replace GL := Go.Lib.hid (GL.out.below hq)
  replace Na := Go.Lib.hid ((Na.out.below hq).mono hq.size)
  replace Nb := Go.Lib.hid ((Nb.out.below hq).mono hq.size)
  replace Nna := Go.Lib.hid ((Nna.out.below hq).mono hq.size)
  replace Nnb := Go.Lib.hid ((Nnb.out.below hq).mono hq.size)
  replace Nan := Go.Lib.hid ((Nan.out.below hq).mono hq.size)
  replace Nor := Go.Lib.hid ((Nor.out.below hq).mono hq.size)
  replace Nxo := Go.Lib.hid ((Nxo.out.below hq).mono hq.size)
  replace HB := Go.Lib.hid (HB.out.trans (hq.mono HB.out.size))
  clear cgor_0 cgor_1 cgor_2
  obtain rfl := boolIs_t Oor.out hb
  clear hb hq
  have cgan_0 := cell_of_block (i := 0) Hgan.out (v := .int .i64 n) rfl
  have cgan_1 := cell_of_block (i := 1) Hgan.out (v := .slice aan man.length kan) rfl
  have cgan_2 := cell_of_block (i := 2) Hgan.out (v := .int .i64 Ran) rfl
  go_wp2_with fail
  refine (c_BddNotI n Ran w17 GL.out (Nat.le_refl _) Nan.out).mono ?_
  rintro e w18 ⟨x, V, Rx, b, mx, rfl, how, hrel, hq⟩
  replace Hga := Go.Lib.hid ((hq.block _ lga).trans Hga.out)
  replace lga := Nat.lt_of_lt_of_le lga hq.size
  replace Hgb := Go.Lib.hid ((hq.block _ lgb).trans Hgb.out)
  replace lgb := Nat.lt_of_lt_of_le lgb hq.size
  replace Hgna := Go.Lib.hid ((hq.block _ lgna).trans Hgna.out)
  replace lgna := Nat.lt_of_lt_of_le lgna hq.size
  replace Hgnb := Go.Lib.hid ((hq.block _ lgnb).trans Hgnb.out)
  replace lgnb := Nat.lt_of_lt_of_le lgnb hq.size
  replace Hgan := Go.Lib.hid ((hq.block _ lgan).trans Hgan.out)
  replace lgan := Nat.lt_of_lt_of_le lgan hq.size
  replace Hgor := Go.Lib.hid ((hq.block _ lgor).trans Hgor.out)
  replace lgor := Nat.lt_of_lt_of_le lgor hq.size
  replace Hgxo := Go.Lib.hid ((hq.block _ lgxo).trans Hgxo.out)
  replace lgxo := Nat.lt_of_lt_of_le lgxo hq.size
  replace GL := Go.Lib.hid (GL.out.below hq)
  replace Na := Go.Lib.hid ((Na.out.below hq).mono hq.size)
  replace Nb := Go.Lib.hid ((Nb.out.below hq).mono hq.size)
  replace Nna := Go.Lib.hid ((Nna.out.below hq).mono hq.size)
  replace Nnb := Go.Lib.hid ((Nnb.out.below hq).mono hq.size)
  replace Nan := Go.Lib.hid ((Nan.out.below hq).mono hq.size)
  replace Nor := Go.Lib.hid ((Nor.out.below hq).mono hq.size)
  replace Nxo := Go.Lib.hid ((Nxo.out.below hq).mono hq.size)
  replace HB := Go.Lib.hid (HB.out.trans (hq.mono HB.out.size))
  clear cgan_0 cgan_1 cgan_2
  obtain ⟨e1, e2, e3, e4, e5⟩ := hrel.few (Oan.out) ⟨hn0, hn6⟩
  subst e1
  subst e2
  obtain ⟨ax, kx, rfl, -⟩ := OwnN.form how
  have Ax := Go.Lib.hid e3
  have Ox := Go.Lib.hid e4
  have Ex := Go.Lib.hid e5
  have Nx := Go.Lib.hid (OwnN.bns how rfl)
  clear how hrel hq e3 e4 e5
  go_upto_region 14 with fail
  refine code_gen (R := fun wb => wb.heap[w18.heap.size]? = some (.cells #[.int .i64 n, .slice ax mx.length kx, .int .i64 Rx] 25 (0, 0)) ∧ Below w18.heap.size w18 wb) ⟨by first | exact (MapKept.heap_alloc _ _).1 | exact heap_alloc_new _ _, by go_grown⟩ ?_
  rintro w19 ⟨k, hq⟩
  have lgx : w18.heap.size < w19.heap.size := (Array.getElem?_eq_some_iff.1 k).1
  replace Hga := Go.Lib.hid ((hq.block _ lga).trans Hga.out)
  replace lga := Nat.lt_of_lt_of_le lga hq.size
  replace Hgb := Go.Lib.hid ((hq.block _ lgb).trans Hgb.out)
  replace lgb := Nat.lt_of_lt_of_le lgb hq.size
  replace Hgna := Go.Lib.hid ((hq.block _ lgna).trans Hgna.out)
  replace lgna := Nat.lt_of_lt_of_le lgna hq.size
  replace Hgnb := Go.Lib.hid ((hq.block _ lgnb).trans Hgnb.out)
  replace lgnb := Nat.lt_of_lt_of_le lgnb hq.size
  replace Hgan := Go.Lib.hid ((hq.block _ lgan).trans Hgan.out)
  replace lgan := Nat.lt_of_lt_of_le lgan hq.size
  replace Hgor := Go.Lib.hid ((hq.block _ lgor).trans Hgor.out)
  replace lgor := Nat.lt_of_lt_of_le lgor hq.size
  replace Hgxo := Go.Lib.hid ((hq.block _ lgxo).trans Hgxo.out)
  replace lgxo := Nat.lt_of_lt_of_le lgxo hq.size
  replace GL := Go.Lib.hid (GL.out.below hq)
  replace Na := Go.Lib.hid ((Na.out.below hq).mono hq.size)
  replace Nb := Go.Lib.hid ((Nb.out.below hq).mono hq.size)
  replace Nna := Go.Lib.hid ((Nna.out.below hq).mono hq.size)
  replace Nnb := Go.Lib.hid ((Nnb.out.below hq).mono hq.size)
  replace Nan := Go.Lib.hid ((Nan.out.below hq).mono hq.size)
  replace Nor := Go.Lib.hid ((Nor.out.below hq).mono hq.size)
  replace Nxo := Go.Lib.hid ((Nxo.out.below hq).mono hq.size)
  replace Nx := Go.Lib.hid ((Nx.out.below hq).mono hq.size)
  replace HB := Go.Lib.hid (HB.out.trans (hq.mono HB.out.size))
  obtain ⟨gx, hgx⟩ : ∃ g, w18.heap.size = g := ⟨_, rfl⟩
  rw [hgx] at k lgx ⊢
  have Hgx := Go.Lib.hid k
  clear k hq hgx
  have cgna_0 := cell_of_block (i := 0) Hgna.out (v := .int .i64 n) rfl
  have cgna_1 := cell_of_block (i := 1) Hgna.out (v := .slice ana mna.length kna) rfl
  have cgna_2 := cell_of_block (i := 2) Hgna.out (v := .int .i64 Rna) rfl
  have cgnb_0 := cell_of_block (i := 0) Hgnb.out (v := .int .i64 n) rfl
  have cgnb_1 := cell_of_block (i := 1) Hgnb.out (v := .slice anb mnb.length knb) rfl
  have cgnb_2 := cell_of_block (i := 2) Hgnb.out (v := .int .i64 Rnb) rfl
  go_wp2_with fail
  refine (c_BddOrI n Rna n Rnb w19 GL.out (Nat.le_refl _) Nna.out Nnb.out).mono ?_
  rintro e w20 ⟨x, V, Ry, b, my, rfl, how, hrel, hq⟩
  replace Hga := Go.Lib.hid ((hq.block _ lga).trans Hga.out)
  replace lga := Nat.lt_of_lt_of_le lga hq.size
  replace Hgb := Go.Lib.hid ((hq.block _ lgb).trans Hgb.out)
  replace lgb := Nat.lt_of_lt_of_le lgb hq.size
  replace Hgna := Go.Lib.hid ((hq.block _ lgna).trans Hgna.out)
  replace lgna := Nat.lt_of_lt_of_le lgna hq.size
  replace Hgnb := Go.Lib.hid ((hq.block _ lgnb).trans Hgnb.out)
  replace lgnb := Nat.lt_of_lt_of_le lgnb hq.size
  replace Hgan := Go.Lib.hid ((hq.block _ lgan).trans Hgan.out)
  replace lgan := Nat.lt_of_lt_of_le lgan hq.size
  replace Hgor := Go.Lib.hid ((hq.block _ lgor).trans Hgor.out)
  replace lgor := Nat.lt_of_lt_of_le lgor hq.size
  replace Hgxo := Go.Lib.hid ((hq.block _ lgxo).trans Hgxo.out)
  replace lgxo := Nat.lt_of_lt_of_le lgxo hq.size
  replace Hgx := Go.Lib.hid ((hq.block _ lgx).trans Hgx.out)
  replace lgx := Nat.lt_of_lt_of_le lgx hq.size
  replace GL := Go.Lib.hid (GL.out.below hq)
  replace Na := Go.Lib.hid ((Na.out.below hq).mono hq.size)
  replace Nb := Go.Lib.hid ((Nb.out.below hq).mono hq.size)
  replace Nna := Go.Lib.hid ((Nna.out.below hq).mono hq.size)
  replace Nnb := Go.Lib.hid ((Nnb.out.below hq).mono hq.size)
  replace Nan := Go.Lib.hid ((Nan.out.below hq).mono hq.size)
  replace Nor := Go.Lib.hid ((Nor.out.below hq).mono hq.size)
  replace Nxo := Go.Lib.hid ((Nxo.out.below hq).mono hq.size)
  replace Nx := Go.Lib.hid ((Nx.out.below hq).mono hq.size)
  replace HB := Go.Lib.hid (HB.out.trans (hq.mono HB.out.size))
  clear cgna_0 cgna_1 cgna_2 cgnb_0 cgnb_1 cgnb_2
  obtain ⟨e1, e2, e3, e4, e5⟩ := hrel.few (⟨rfl, Ona.out, Onb.out⟩) ⟨hn0, hn6⟩
  subst e1
  subst e2
  obtain ⟨ay, ky, rfl, -⟩ := OwnN.form how
  have Ay := Go.Lib.hid e3
  have Oy := Go.Lib.hid e4
  have Ey := Go.Lib.hid e5
  have Ny := Go.Lib.hid (OwnN.bns how rfl)
  clear how hrel hq e3 e4 e5
  go_upto_region 15 with fail
  refine code_gen (R := fun wb => wb.heap[w20.heap.size]? = some (.cells #[.int .i64 n, .slice ay my.length ky, .int .i64 Ry] 25 (0, 0)) ∧ Below w20.heap.size w20 wb) ⟨by first | exact (MapKept.heap_alloc _ _).1 | exact heap_alloc_new _ _, by go_grown⟩ ?_
  rintro w21 ⟨k, hq⟩
  have lgy : w20.heap.size < w21.heap.size := (Array.getElem?_eq_some_iff.1 k).1
  replace Hga := Go.Lib.hid ((hq.block _ lga).trans Hga.out)
  replace lga := Nat.lt_of_lt_of_le lga hq.size
  replace Hgb := Go.Lib.hid ((hq.block _ lgb).trans Hgb.out)
  replace lgb := Nat.lt_of_lt_of_le lgb hq.size
  replace Hgna := Go.Lib.hid ((hq.block _ lgna).trans Hgna.out)
  replace lgna := Nat.lt_of_lt_of_le lgna hq.size
  replace Hgnb := Go.Lib.hid ((hq.block _ lgnb).trans Hgnb.out)
  replace lgnb := Nat.lt_of_lt_of_le lgnb hq.size
  replace Hgan := Go.Lib.hid ((hq.block _ lgan).trans Hgan.out)
  replace lgan := Nat.lt_of_lt_of_le lgan hq.size
  replace Hgor := Go.Lib.hid ((hq.block _ lgor).trans Hgor.out)
  replace lgor := Nat.lt_of_lt_of_le lgor hq.size
  replace Hgxo := Go.Lib.hid ((hq.block _ lgxo).trans Hgxo.out)
  replace lgxo := Nat.lt_of_lt_of_le lgxo hq.size
  replace Hgx := Go.Lib.hid ((hq.block _ lgx).trans Hgx.out)
  replace lgx := Nat.lt_of_lt_of_le lgx hq.size
  replace GL := Go.Lib.hid (GL.out.below hq)
  replace Na := Go.Lib.hid ((Na.out.below hq).mono hq.size)
  replace Nb := Go.Lib.hid ((Nb.out.below hq).mono hq.size)
  replace Nna := Go.Lib.hid ((Nna.out.below hq).mono hq.size)
  replace Nnb := Go.Lib.hid ((Nnb.out.below hq).mono hq.size)
  replace Nan := Go.Lib.hid ((Nan.out.below hq).mono hq.size)
  replace Nor := Go.Lib.hid ((Nor.out.below hq).mono hq.size)
  replace Nxo := Go.Lib.hid ((Nxo.out.below hq).mono hq.size)
  replace Nx := Go.Lib.hid ((Nx.out.below hq).mono hq.size)
  replace Ny := Go.Lib.hid ((Ny.out.below hq).mono hq.size)
  replace HB := Go.Lib.hid (HB.out.trans (hq.mono HB.out.size))
  obtain ⟨gy, hgy⟩ : ∃ g, w20.heap.size = g := ⟨_, rfl⟩
  rw [hgy] at k lgy ⊢
  have Hgy := Go.Lib.hid k
  clear k hq hgy
  have cgna_0 := cell_of_block (i := 0) Hgna.out (v := .int .i64 n) rfl
  have cgna_1 := cell_of_block (i := 1) Hgna.out (v := .slice ana mna.length kna) rfl
  have cgna_2 := cell_of_block (i := 2) Hgna.out (v := .int .i64 Rna) rfl
  go_wp2_with fail
  refine (c_BddNotI n Rna w21 GL.out (Nat.le_refl _) Nna.out).mono ?_
  rintro e w22 ⟨x, V, Rbk, b, mbk, rfl, how, hrel, hq⟩
  replace Hga := Go.Lib.hid ((hq.block _ lga).trans Hga.out)
  replace lga := Nat.lt_of_lt_of_le lga hq.size
  replace Hgb := Go.Lib.hid ((hq.block _ lgb).trans Hgb.out)
  replace lgb := Nat.lt_of_lt_of_le lgb hq.size
  replace Hgna := Go.Lib.hid ((hq.block _ lgna).trans Hgna.out)
  replace lgna := Nat.lt_of_lt_of_le lgna hq.size
  replace Hgnb := Go.Lib.hid ((hq.block _ lgnb).trans Hgnb.out)
  replace lgnb := Nat.lt_of_lt_of_le lgnb hq.size
  replace Hgan := Go.Lib.hid ((hq.block _ lgan).trans Hgan.out)
  replace lgan := Nat.lt_of_lt_of_le lgan hq.size
  replace Hgor := Go.Lib.hid ((hq.block _ lgor).trans Hgor.out)
  replace lgor := Nat.lt_of_lt_of_le lgor hq.size
  replace Hgxo := Go.Lib.hid ((hq.block _ lgxo).trans Hgxo.out)
  replace lgxo := Nat.lt_of_lt_of_le lgxo hq.size
  replace Hgx := Go.Lib.hid ((hq.block _ lgx).trans Hgx.out)
  replace lgx := Nat.lt_of_lt_of_le lgx hq.size
  replace Hgy := Go.Lib.hid ((hq.block _ lgy).trans Hgy.out)
  replace lgy := Nat.lt_of_lt_of_le lgy hq.size
  replace GL := Go.Lib.hid (GL.out.below hq)
  replace Na := Go.Lib.hid ((Na.out.below hq).mono hq.size)
  replace Nb := Go.Lib.hid ((Nb.out.below hq).mono hq.size)
  replace Nna := Go.Lib.hid ((Nna.out.below hq).mono hq.size)
  replace Nnb := Go.Lib.hid ((Nnb.out.below hq).mono hq.size)
  replace Nan := Go.Lib.hid ((Nan.out.below hq).mono hq.size)
  replace Nor := Go.Lib.hid ((Nor.out.below hq).mono hq.size)
  replace Nxo := Go.Lib.hid ((Nxo.out.below hq).mono hq.size)
  replace Nx := Go.Lib.hid ((Nx.out.below hq).mono hq.size)
  replace Ny := Go.Lib.hid ((Ny.out.below hq).mono hq.size)
  replace HB := Go.Lib.hid (HB.out.trans (hq.mono HB.out.size))
  clear cgna_0 cgna_1 cgna_2
  obtain ⟨e1, e2, e3, e4, e5⟩ := hrel.few (Ona.out) ⟨hn0, hn6⟩
  subst e1
  subst e2
  obtain ⟨abk, kbk, rfl, -⟩ := OwnN.form how
  have Abk := Go.Lib.hid e3
  have Obk := Go.Lib.hid e4
  have Ebk := Go.Lib.hid e5
  have Nbk := Go.Lib.hid (OwnN.bns how rfl)
  clear how hrel hq e3 e4 e5
  go_upto_region 16 with fail
  refine code_gen (R := fun wb => wb.heap[w22.heap.size]? = some (.cells #[.int .i64 n, .slice abk mbk.length kbk, .int .i64 Rbk] 25 (0, 0)) ∧ Below w22.heap.size w22 wb) ⟨by first | exact (MapKept.heap_alloc _ _).1 | exact heap_alloc_new _ _, by go_grown⟩ ?_
  rintro w23 ⟨k, hq⟩
  have lgbk : w22.heap.size < w23.heap.size := (Array.getElem?_eq_some_iff.1 k).1
  replace Hga := Go.Lib.hid ((hq.block _ lga).trans Hga.out)
  replace lga := Nat.lt_of_lt_of_le lga hq.size
  replace Hgb := Go.Lib.hid ((hq.block _ lgb).trans Hgb.out)
  replace lgb := Nat.lt_of_lt_of_le lgb hq.size
  replace Hgna := Go.Lib.hid ((hq.block _ lgna).trans Hgna.out)
  replace lgna := Nat.lt_of_lt_of_le lgna hq.size
  replace Hgnb := Go.Lib.hid ((hq.block _ lgnb).trans Hgnb.out)
  replace lgnb := Nat.lt_of_lt_of_le lgnb hq.size
  replace Hgan := Go.Lib.hid ((hq.block _ lgan).trans Hgan.out)
  replace lgan := Nat.lt_of_lt_of_le lgan hq.size
  replace Hgor := Go.Lib.hid ((hq.block _ lgor).trans Hgor.out)
  replace lgor := Nat.lt_of_lt_of_le lgor hq.size
  replace Hgxo := Go.Lib.hid ((hq.block _ lgxo).trans Hgxo.out)
  replace lgxo := Nat.lt_of_lt_of_le lgxo hq.size
  replace Hgx := Go.Lib.hid ((hq.block _ lgx).trans Hgx.out)
  replace lgx := Nat.lt_of_lt_of_le lgx hq.size
  replace Hgy := Go.Lib.hid ((hq.block _ lgy).trans Hgy.out)
  replace lgy := Nat.lt_of_lt_of_le lgy hq.size
  replace GL := Go.Lib.hid (GL.out.below hq)
  replace Na := Go.Lib.hid ((Na.out.below hq).mono hq.size)
  replace Nb := Go.Lib.hid ((Nb.out.below hq).mono hq.size)
  replace Nna := Go.Lib.hid ((Nna.out.below hq).mono hq.size)
  replace Nnb := Go.Lib.hid ((Nnb.out.below hq).mono hq.size)
  replace Nan := Go.Lib.hid ((Nan.out.below hq).mono hq.size)
  replace Nor := Go.Lib.hid ((Nor.out.below hq).mono hq.size)
  replace Nxo := Go.Lib.hid ((Nxo.out.below hq).mono hq.size)
  replace Nx := Go.Lib.hid ((Nx.out.below hq).mono hq.size)
  replace Ny := Go.Lib.hid ((Ny.out.below hq).mono hq.size)
  replace Nbk := Go.Lib.hid ((Nbk.out.below hq).mono hq.size)
  replace HB := Go.Lib.hid (HB.out.trans (hq.mono HB.out.size))
  obtain ⟨gbk, hgbk⟩ : ∃ g, w22.heap.size = g := ⟨_, rfl⟩
  rw [hgbk] at k lgbk ⊢
  have Hgbk := Go.Lib.hid k
  clear k hq hgbk
  have cga_0 := cell_of_block (i := 0) Hga.out (v := .int .i64 n) rfl
  have cga_1 := cell_of_block (i := 1) Hga.out (v := .slice aa ma.length ka) rfl
  have cga_2 := cell_of_block (i := 2) Hga.out (v := .int .i64 Ra) rfl
  have cgan_0 := cell_of_block (i := 0) Hgan.out (v := .int .i64 n) rfl
  have cgan_1 := cell_of_block (i := 1) Hgan.out (v := .slice aan man.length kan) rfl
  have cgan_2 := cell_of_block (i := 2) Hgan.out (v := .int .i64 Ran) rfl
  go_wp2_with fail
  refine (c_BddOrI n Ra n Ran w23 GL.out (Nat.le_refl _) Na.out Nan.out).mono ?_
  rintro e w24 ⟨x, V, Rab, b, mab, rfl, how, hrel, hq⟩
  replace Hga := Go.Lib.hid ((hq.block _ lga).trans Hga.out)
  replace lga := Nat.lt_of_lt_of_le lga hq.size
  replace Hgb := Go.Lib.hid ((hq.block _ lgb).trans Hgb.out)
  replace lgb := Nat.lt_of_lt_of_le lgb hq.size
  replace Hgna := Go.Lib.hid ((hq.block _ lgna).trans Hgna.out)
  replace lgna := Nat.lt_of_lt_of_le lgna hq.size
  replace Hgnb := Go.Lib.hid ((hq.block _ lgnb).trans Hgnb.out)
  replace lgnb := Nat.lt_of_lt_of_le lgnb hq.size
  replace Hgan := Go.Lib.hid ((hq.block _ lgan).trans Hgan.out)
  replace lgan := Nat.lt_of_lt_of_le lgan hq.size
  replace Hgor := Go.Lib.hid ((hq.block _ lgor).trans Hgor.out)
  replace lgor := Nat.lt_of_lt_of_le lgor hq.size
  replace Hgxo := Go.Lib.hid ((hq.block _ lgxo).trans Hgxo.out)
  replace lgxo := Nat.lt_of_lt_of_le lgxo hq.size
  replace Hgx := Go.Lib.hid ((hq.block _ lgx).trans Hgx.out)
  replace lgx := Nat.lt_of_lt_of_le lgx hq.size
  replace Hgy := Go.Lib.hid ((hq.block _ lgy).trans Hgy.out)
  replace lgy := Nat.lt_of_lt_of_le lgy hq.size
  replace Hgbk := Go.Lib.hid ((hq.block _ lgbk).trans Hgbk.out)
  replace lgbk := Nat.lt_of_lt_of_le lgbk hq.size
  replace GL := Go.Lib.hid (GL.out.below hq)
  replace Na := Go.Lib.hid ((Na.out.below hq).mono hq.size)
  replace Nb := Go.Lib.hid ((Nb.out.below hq).mono hq.size)
  replace Nna := Go.Lib.hid ((Nna.out.below hq).mono hq.size)
  replace Nnb := Go.Lib.hid ((Nnb.out.below hq).mono hq.size)
  replace Nan := Go.Lib.hid ((Nan.out.below hq).mono hq.size)
  replace Nor := Go.Lib.hid ((Nor.out.below hq).mono hq.size)
  replace Nxo := Go.Lib.hid ((Nxo.out.below hq).mono hq.size)
  replace Nx := Go.Lib.hid ((Nx.out.below hq).mono hq.size)
  replace Ny := Go.Lib.hid ((Ny.out.below hq).mono hq.size)
  replace Nbk := Go.Lib.hid ((Nbk.out.below hq).mono hq.size)
  replace HB := Go.Lib.hid (HB.out.trans (hq.mono HB.out.size))
  clear cga_0 cga_1 cga_2 cgan_0 cgan_1 cgan_2
  obtain ⟨e1, e2, e3, e4, e5⟩ := hrel.few (⟨rfl, Oa.out, Oan.out⟩) ⟨hn0, hn6⟩
  subst e1
  subst e2
  obtain ⟨aab, kab, rfl, -⟩ := OwnN.form how
  have Aab := Go.Lib.hid e3
  have Oab := Go.Lib.hid e4
  have Eab := Go.Lib.hid e5
  have Nab := Go.Lib.hid (OwnN.bns how rfl)
  clear how hrel hq e3 e4 e5
  go_upto_region 17 with fail
  refine code_gen (R := fun wb => wb.heap[w24.heap.size]? = some (.cells #[.int .i64 n, .slice aab mab.length kab, .int .i64 Rab] 25 (0, 0)) ∧ Below w24.heap.size w24 wb) ⟨by first | exact (MapKept.heap_alloc _ _).1 | exact heap_alloc_new _ _, by go_grown⟩ ?_
  rintro w25 ⟨k, hq⟩
  have lgab : w24.heap.size < w25.heap.size := (Array.getElem?_eq_some_iff.1 k).1
  replace Hga := Go.Lib.hid ((hq.block _ lga).trans Hga.out)
  replace lga := Nat.lt_of_lt_of_le lga hq.size
  replace Hgb := Go.Lib.hid ((hq.block _ lgb).trans Hgb.out)
  replace lgb := Nat.lt_of_lt_of_le lgb hq.size
  replace Hgna := Go.Lib.hid ((hq.block _ lgna).trans Hgna.out)
  replace lgna := Nat.lt_of_lt_of_le lgna hq.size
  replace Hgnb := Go.Lib.hid ((hq.block _ lgnb).trans Hgnb.out)
  replace lgnb := Nat.lt_of_lt_of_le lgnb hq.size
  replace Hgan := Go.Lib.hid ((hq.block _ lgan).trans Hgan.out)
  replace lgan := Nat.lt_of_lt_of_le lgan hq.size
  replace Hgor := Go.Lib.hid ((hq.block _ lgor).trans Hgor.out)
  replace lgor := Nat.lt_of_lt_of_le lgor hq.size
  replace Hgxo := Go.Lib.hid ((hq.block _ lgxo).trans Hgxo.out)
  replace lgxo := Nat.lt_of_lt_of_le lgxo hq.size
  replace Hgx := Go.Lib.hid ((hq.block _ lgx).trans Hgx.out)
  replace lgx := Nat.lt_of_lt_of_le lgx hq.size
  replace Hgy := Go.Lib.hid ((hq.block _ lgy).trans Hgy.out)
  replace lgy := Nat.lt_of_lt_of_le lgy hq.size
  replace Hgbk := Go.Lib.hid ((hq.block _ lgbk).trans Hgbk.out)
  replace lgbk := Nat.lt_of_lt_of_le lgbk hq.size
  replace GL := Go.Lib.hid (GL.out.below hq)
  replace Na := Go.Lib.hid ((Na.out.below hq).mono hq.size)
  replace Nb := Go.Lib.hid ((Nb.out.below hq).mono hq.size)
  replace Nna := Go.Lib.hid ((Nna.out.below hq).mono hq.size)
  replace Nnb := Go.Lib.hid ((Nnb.out.below hq).mono hq.size)
  replace Nan := Go.Lib.hid ((Nan.out.below hq).mono hq.size)
  replace Nor := Go.Lib.hid ((Nor.out.below hq).mono hq.size)
  replace Nxo := Go.Lib.hid ((Nxo.out.below hq).mono hq.size)
  replace Nx := Go.Lib.hid ((Nx.out.below hq).mono hq.size)
  replace Ny := Go.Lib.hid ((Ny.out.below hq).mono hq.size)
  replace Nbk := Go.Lib.hid ((Nbk.out.below hq).mono hq.size)
  replace Nab := Go.Lib.hid ((Nab.out.below hq).mono hq.size)
  replace HB := Go.Lib.hid (HB.out.trans (hq.mono HB.out.size))
  obtain ⟨gab, hgab⟩ : ∃ g, w24.heap.size = g := ⟨_, rfl⟩
  rw [hgab] at k lgab ⊢
  have Hgab := Go.Lib.hid k
  clear k hq hgab
  have cga_0 := cell_of_block (i := 0) Hga.out (v := .int .i64 n) rfl
  have cga_1 := cell_of_block (i := 1) Hga.out (v := .slice aa ma.length ka) rfl
  have cga_2 := cell_of_block (i := 2) Hga.out (v := .int .i64 Ra) rfl
  have cgnb_0 := cell_of_block (i := 0) Hgnb.out (v := .int .i64 n) rfl
  have cgnb_1 := cell_of_block (i := 1) Hgnb.out (v := .slice anb mnb.length knb) rfl
  have cgnb_2 := cell_of_block (i := 2) Hgnb.out (v := .int .i64 Rnb) rfl
  have cgb_0 := cell_of_block (i := 0) Hgb.out (v := .int .i64 n) rfl
  have cgb_1 := cell_of_block (i := 1) Hgb.out (v := .slice ab mb.length kb) rfl
  have cgb_2 := cell_of_block (i := 2) Hgb.out (v := .int .i64 Rb) rfl
  go_wp2_with fail
  refine (c_BddIfI n Ra n Rnb n Rb w25 GL.out (Nat.le_refl _) Na.out Nnb.out Nb.out).mono ?_
  rintro e w26 ⟨x, V, Rit, b, mit, rfl, how, hrel, hq⟩
  replace Hga := Go.Lib.hid ((hq.block _ lga).trans Hga.out)
  replace lga := Nat.lt_of_lt_of_le lga hq.size
  replace Hgb := Go.Lib.hid ((hq.block _ lgb).trans Hgb.out)
  replace lgb := Nat.lt_of_lt_of_le lgb hq.size
  replace Hgna := Go.Lib.hid ((hq.block _ lgna).trans Hgna.out)
  replace lgna := Nat.lt_of_lt_of_le lgna hq.size
  replace Hgnb := Go.Lib.hid ((hq.block _ lgnb).trans Hgnb.out)
  replace lgnb := Nat.lt_of_lt_of_le lgnb hq.size
  replace Hgan := Go.Lib.hid ((hq.block _ lgan).trans Hgan.out)
  replace lgan := Nat.lt_of_lt_of_le lgan hq.size
  replace Hgor := Go.Lib.hid ((hq.block _ lgor).trans Hgor.out)
  replace lgor := Nat.lt_of_lt_of_le lgor hq.size
  replace Hgxo := Go.Lib.hid ((hq.block _ lgxo).trans Hgxo.out)
  replace lgxo := Nat.lt_of_lt_of_le lgxo hq.size
  replace Hgx := Go.Lib.hid ((hq.block _ lgx).trans Hgx.out)
  replace lgx := Nat.lt_of_lt_of_le lgx hq.size
  replace Hgy := Go.Lib.hid ((hq.block _ lgy).trans Hgy.out)
  replace lgy := Nat.lt_of_lt_of_le lgy hq.size
  replace Hgbk := Go.Lib.hid ((hq.block _ lgbk).trans Hgbk.out)
  replace lgbk := Nat.lt_of_lt_of_le lgbk hq.size
  replace Hgab := Go.Lib.hid ((hq.block _ lgab).trans Hgab.out)
  replace lgab := Nat.lt_of_lt_of_le lgab hq.size
  replace GL := Go.Lib.hid (GL.out.below hq)
  replace Na := Go.Lib.hid ((Na.out.below hq).mono hq.size)
  replace Nb := Go.Lib.hid ((Nb.out.below hq).mono hq.size)
  replace Nna := Go.Lib.hid ((Nna.out.below hq).mono hq.size)
  replace Nnb := Go.Lib.hid ((Nnb.out.below hq).mono hq.size)
  replace Nan := Go.Lib.hid ((Nan.out.below hq).mono hq.size)
  replace Nor := Go.Lib.hid ((Nor.out.below hq).mono hq.size)
  replace Nxo := Go.Lib.hid ((Nxo.out.below hq).mono hq.size)
  replace Nx := Go.Lib.hid ((Nx.out.below hq).mono hq.size)
  replace Ny := Go.Lib.hid ((Ny.out.below hq).mono hq.size)
  replace Nbk := Go.Lib.hid ((Nbk.out.below hq).mono hq.size)
  replace Nab := Go.Lib.hid ((Nab.out.below hq).mono hq.size)
  replace HB := Go.Lib.hid (HB.out.trans (hq.mono HB.out.size))
  clear cga_0 cga_1 cga_2 cgnb_0 cgnb_1 cgnb_2 cgb_0 cgb_1 cgb_2
  obtain ⟨e1, e2, e3, e4, e5⟩ := hrel.few (⟨⟨rfl, Oa.out, Onb.out⟩, ⟨rfl, Oa.out, Ob.out⟩⟩) ⟨hn0, hn6⟩
  subst e1
  subst e2
  obtain ⟨ait, kit, rfl, -⟩ := OwnN.form how
  have Ait := Go.Lib.hid e3
  have Oit := Go.Lib.hid e4
  have Eit := Go.Lib.hid e5
  have Nit := Go.Lib.hid (OwnN.bns how rfl)
  clear how hrel hq e3 e4 e5
  go_upto_region 18 with fail
  refine code_gen (R := fun wb => wb.heap[w26.heap.size]? = some (.cells #[.int .i64 n, .slice ait mit.length kit, .int .i64 Rit] 25 (0, 0)) ∧ Below w26.heap.size w26 wb) ⟨by first | exact (MapKept.heap_alloc _ _).1 | exact heap_alloc_new _ _, by go_grown⟩ ?_
  rintro w27 ⟨k, hq⟩
  have lgit : w26.heap.size < w27.heap.size := (Array.getElem?_eq_some_iff.1 k).1
  replace Hga := Go.Lib.hid ((hq.block _ lga).trans Hga.out)
  replace lga := Nat.lt_of_lt_of_le lga hq.size
  replace Hgb := Go.Lib.hid ((hq.block _ lgb).trans Hgb.out)
  replace lgb := Nat.lt_of_lt_of_le lgb hq.size
  replace Hgna := Go.Lib.hid ((hq.block _ lgna).trans Hgna.out)
  replace lgna := Nat.lt_of_lt_of_le lgna hq.size
  replace Hgnb := Go.Lib.hid ((hq.block _ lgnb).trans Hgnb.out)
  replace lgnb := Nat.lt_of_lt_of_le lgnb hq.size
  replace Hgan := Go.Lib.hid ((hq.block _ lgan).trans Hgan.out)
  replace lgan := Nat.lt_of_lt_of_le lgan hq.size
  replace Hgor := Go.Lib.hid ((hq.block _ lgor).trans Hgor.out)
  replace lgor := Nat.lt_of_lt_of_le lgor hq.size
  replace Hgxo := Go.Lib.hid ((hq.block _ lgxo).trans Hgxo.out)
  replace lgxo := Nat.lt_of_lt_of_le lgxo hq.size
  replace Hgx := Go.Lib.hid ((hq.block _ lgx).trans Hgx.out)
  replace lgx := Nat.lt_of_lt_of_le lgx hq.size
  replace Hgy := Go.Lib.hid ((hq.block _ lgy).trans Hgy.out)
  replace lgy := Nat.lt_of_lt_of_le lgy hq.size
  replace Hgbk := Go.Lib.hid ((hq.block _ lgbk).trans Hgbk.out)
  replace lgbk := Nat.lt_of_lt_of_le lgbk hq.size
  replace Hgab := Go.Lib.hid ((hq.block _ lgab).trans Hgab.out)
  replace lgab := Nat.lt_of_lt_of_le lgab hq.size
  replace GL := Go.Lib.hid (GL.out.below hq)
  replace Na := Go.Lib.hid ((Na.out.below hq).mono hq.size)
  replace Nb := Go.Lib.hid ((Nb.out.below hq).mono hq.size)
  replace Nna := Go.Lib.hid ((Nna.out.below hq).mono hq.size)
  replace Nnb := Go.Lib.hid ((Nnb.out.below hq).mono hq.size)
  replace Nan := Go.Lib.hid ((Nan.out.below hq).mono hq.size)
  replace Nor := Go.Lib.hid ((Nor.out.below hq).mono hq.size)
  replace Nxo := Go.Lib.hid ((Nxo.out.below hq).mono hq.size)
  replace Nx := Go.Lib.hid ((Nx.out.below hq).mono hq.size)
  replace Ny := Go.Lib.hid ((Ny.out.below hq).mono hq.size)
  replace Nbk := Go.Lib.hid ((Nbk.out.below hq).mono hq.size)
  replace Nab := Go.Lib.hid ((Nab.out.below hq).mono hq.size)
  replace Nit := Go.Lib.hid ((Nit.out.below hq).mono hq.size)
  replace HB := Go.Lib.hid (HB.out.trans (hq.mono HB.out.size))
  obtain ⟨git, hgit⟩ : ∃ g, w26.heap.size = g := ⟨_, rfl⟩
  rw [hgit] at k lgit ⊢
  have Hgit := Go.Lib.hid k
  clear k hq hgit
  have cga_0 := cell_of_block (i := 0) Hga.out (v := .int .i64 n) rfl
  have cga_1 := cell_of_block (i := 1) Hga.out (v := .slice aa ma.length ka) rfl
  have cga_2 := cell_of_block (i := 2) Hga.out (v := .int .i64 Ra) rfl
  have cgna_0 := cell_of_block (i := 0) Hgna.out (v := .int .i64 n) rfl
  have cgna_1 := cell_of_block (i := 1) Hgna.out (v := .slice ana mna.length kna) rfl
  have cgna_2 := cell_of_block (i := 2) Hgna.out (v := .int .i64 Rna) rfl
  go_wp2_with fail
  refine (c_BddAndI n Ra n Rna w27 GL.out (Nat.le_refl _) Na.out Nna.out).mono ?_
  rintro e w28 ⟨x, V, Rno, b, mno, rfl, how, hrel, hq⟩
  replace Hga := Go.Lib.hid ((hq.block _ lga).trans Hga.out)
  replace lga := Nat.lt_of_lt_of_le lga hq.size
  replace Hgb := Go.Lib.hid ((hq.block _ lgb).trans Hgb.out)
  replace lgb := Nat.lt_of_lt_of_le lgb hq.size
  replace Hgna := Go.Lib.hid ((hq.block _ lgna).trans Hgna.out)
  replace lgna := Nat.lt_of_lt_of_le lgna hq.size
  replace Hgnb := Go.Lib.hid ((hq.block _ lgnb).trans Hgnb.out)
  replace lgnb := Nat.lt_of_lt_of_le lgnb hq.size
  replace Hgan := Go.Lib.hid ((hq.block _ lgan).trans Hgan.out)
  replace lgan := Nat.lt_of_lt_of_le lgan hq.size
  replace Hgor := Go.Lib.hid ((hq.block _ lgor).trans Hgor.out)
  replace lgor := Nat.lt_of_lt_of_le lgor hq.size
  replace Hgxo := Go.Lib.hid ((hq.block _ lgxo).trans Hgxo.out)
  replace lgxo := Nat.lt_of_lt_of_le lgxo hq.size
  replace Hgx := Go.Lib.hid ((hq.block _ lgx).trans Hgx.out)
  replace lgx := Nat.lt_of_lt_of_le lgx hq.size
  replace Hgy := Go.Lib.hid ((hq.block _ lgy).trans Hgy.out)
  replace lgy := Nat.lt_of_lt_of_le lgy hq.size
  replace Hgbk := Go.Lib.hid ((hq.block _ lgbk).trans Hgbk.out)
  replace lgbk := Nat.lt_of_lt_of_le lgbk hq.size
  replace Hgab := Go.Lib.hid ((hq.block _ lgab).trans Hgab.out)
  replace lgab := Nat.lt_of_lt_of_le lgab hq.size
  replace Hgit := Go.Lib.hid ((hq.block _ lgit).trans Hgit.out)
  replace lgit := Nat.lt_of_lt_of_le lgit hq.size
  replace GL := Go.Lib.hid (GL.out.below hq)
  replace Na := Go.Lib.hid ((Na.out.below hq).mono hq.size)
  replace Nb := Go.Lib.hid ((Nb.out.below hq).mono hq.size)
  replace Nna := Go.Lib.hid ((Nna.out.below hq).mono hq.size)
  replace Nnb := Go.Lib.hid ((Nnb.out.below hq).mono hq.size)
  replace Nan := Go.Lib.hid ((Nan.out.below hq).mono hq.size)
  replace Nor := Go.Lib.hid ((Nor.out.below hq).mono hq.size)
  replace Nxo := Go.Lib.hid ((Nxo.out.below hq).mono hq.size)
  replace Nx := Go.Lib.hid ((Nx.out.below hq).mono hq.size)
  replace Ny := Go.Lib.hid ((Ny.out.below hq).mono hq.size)
  replace Nbk := Go.Lib.hid ((Nbk.out.below hq).mono hq.size)
  replace Nab := Go.Lib.hid ((Nab.out.below hq).mono hq.size)
  replace Nit := Go.Lib.hid ((Nit.out.below hq).mono hq.size)
  replace HB := Go.Lib.hid (HB.out.trans (hq.mono HB.out.size))
  clear cga_0 cga_1 cga_2 cgna_0 cgna_1 cgna_2
  obtain ⟨e1, e2, e3, e4, e5⟩ := hrel.few (⟨rfl, Oa.out, Ona.out⟩) ⟨hn0, hn6⟩
  subst e1
  subst e2
  obtain ⟨ano, kno, rfl, -⟩ := OwnN.form how
  have Ano := Go.Lib.hid e3
  have Ono := Go.Lib.hid e4
  have Eno := Go.Lib.hid e5
  have Nno := Go.Lib.hid (OwnN.bns how rfl)
  clear how hrel hq e3 e4 e5
  go_upto_region 19 with fail
  refine code_gen (R := fun wb => wb.heap[w28.heap.size]? = some (.cells #[.int .i64 n, .slice ano mno.length kno, .int .i64 Rno] 25 (0, 0)) ∧ Below w28.heap.size w28 wb) ⟨by first | exact (MapKept.heap_alloc _ _).1 | exact heap_alloc_new _ _, by go_grown⟩ ?_
  rintro w29 ⟨k, hq⟩
  have lgno : w28.heap.size < w29.heap.size := (Array.getElem?_eq_some_iff.1 k).1
  replace Hga := Go.Lib.hid ((hq.block _ lga).trans Hga.out)
  replace lga := Nat.lt_of_lt_of_le lga hq.size
  replace Hgb := Go.Lib.hid ((hq.block _ lgb).trans Hgb.out)
  replace lgb := Nat.lt_of_lt_of_le lgb hq.size
  replace Hgna := Go.Lib.hid ((hq.block _ lgna).trans Hgna.out)
  replace lgna := Nat.lt_of_lt_of_le lgna hq.size
  replace Hgnb := Go.Lib.hid ((hq.block _ lgnb).trans Hgnb.out)
  replace lgnb := Nat.lt_of_lt_of_le lgnb hq.size
  replace Hgan := Go.Lib.hid ((hq.block _ lgan).trans Hgan.out)
  replace lgan := Nat.lt_of_lt_of_le lgan hq.size
  replace Hgor := Go.Lib.hid ((hq.block _ lgor).trans Hgor.out)
  replace lgor := Nat.lt_of_lt_of_le lgor hq.size
  replace Hgxo := Go.Lib.hid ((hq.block _ lgxo).trans Hgxo.out)
  replace lgxo := Nat.lt_of_lt_of_le lgxo hq.size
  replace Hgx := Go.Lib.hid ((hq.block _ lgx).trans Hgx.out)
  replace lgx := Nat.lt_of_lt_of_le lgx hq.size
  replace Hgy := Go.Lib.hid ((hq.block _ lgy).trans Hgy.out)
  replace lgy := Nat.lt_of_lt_of_le lgy hq.size
  replace Hgbk := Go.Lib.hid ((hq.block _ lgbk).trans Hgbk.out)
  replace lgbk := Nat.lt_of_lt_of_le lgbk hq.size
  replace Hgab := Go.Lib.hid ((hq.block _ lgab).trans Hgab.out)
  replace lgab := Nat.lt_of_lt_of_le lgab hq.size
  replace Hgit := Go.Lib.hid ((hq.block _ lgit).trans Hgit.out)
  replace lgit := Nat.lt_of_lt_of_le lgit hq.size
  replace GL := Go.Lib.hid (GL.out.below hq)
  replace Na := Go.Lib.hid ((Na.out.below hq).mono hq.size)
  replace Nb := Go.Lib.hid ((Nb.out.below hq).mono hq.size)
  replace Nna := Go.Lib.hid ((Nna.out.below hq).mono hq.size)
  replace Nnb := Go.Lib.hid ((Nnb.out.below hq).mono hq.size)
  replace Nan := Go.Lib.hid ((Nan.out.below hq).mono hq.size)
  replace Nor := Go.Lib.hid ((Nor.out.below hq).mono hq.size)
  replace Nxo := Go.Lib.hid ((Nxo.out.below hq).mono hq.size)
  replace Nx := Go.Lib.hid ((Nx.out.below hq).mono hq.size)
  replace Ny := Go.Lib.hid ((Ny.out.below hq).mono hq.size)
  replace Nbk := Go.Lib.hid ((Nbk.out.below hq).mono hq.size)
  replace Nab := Go.Lib.hid ((Nab.out.below hq).mono hq.size)
  replace Nit := Go.Lib.hid ((Nit.out.below hq).mono hq.size)
  replace Nno := Go.Lib.hid ((Nno.out.below hq).mono hq.size)
  replace HB := Go.Lib.hid (HB.out.trans (hq.mono HB.out.size))
  obtain ⟨gno, hgno⟩ : ∃ g, w28.heap.size = g := ⟨_, rfl⟩
  rw [hgno] at k lgno ⊢
  have Hgno := Go.Lib.hid k
  clear k hq hgno
  have S1 := Go.Lib.hid (show SameB n mx Rx n my Ry from Ax.out.same hn0 Ay.out (fun c h0 h1 => by show (!evF man Ran c) = rl 14 (evF mna Rna c) (evF mnb Rnb c); rw [Ean.out c h0 h1, Ena.out c h0 h1, Enb.out c h0 h1, rl_or]; show (!rl 8 _ _) = _; rw [rl_and]; cases evF ma Ra c <;> cases evF mb Rb c <;> rfl))
  have S2 := Go.Lib.hid (show SameB n mbk Rbk n ma Ra from Abk.out.same hn0 Aa.out (fun c h0 h1 => by show (!evF mna Rna c) = evF ma Ra c; rw [Ena.out c h0 h1]; cases evF ma Ra c <;> rfl))
  have S3 := Go.Lib.hid (show SameB n mab Rab n ma Ra from Aab.out.same hn0 Aa.out (fun c h0 h1 => by show rl 14 (evF ma Ra c) (evF man Ran c) = evF ma Ra c; rw [Ean.out c h0 h1, rl_or]; show (_ || rl 8 _ _) = _; rw [rl_and]; cases evF ma Ra c <;> cases evF mb Rb c <;> rfl))
  have S4 := Go.Lib.hid (show SameB n mit Rit n mxo Rxo from Ait.out.same hn0 Axo.out (fun c h0 h1 => by show (if evF ma Ra c = true then evF mnb Rnb c else evF mb Rb c) = rl 6 (evF ma Ra c) (evF mb Rb c); rw [Enb.out c h0 h1, rl_xor]; cases evF ma Ra c <;> cases evF mb Rb c <;> rfl))
  have S5 := Go.Lib.hid (show SameB n mno Rno n [] 0 from Ano.out.same hn0 ansR_no (fun c h0 h1 => by show rl 8 (evF ma Ra c) (evF mna Rna c) = false; rw [Ena.out c h0 h1, rl_and]; cases evF ma Ra c <;> rfl))
  have SC := Go.Lib.hid (cnt_both Oa.out Ob.out Oan.out Oor.out (fun c h0 h1 => by rw [Ean.out c h0 h1, rl_and]) (fun c h0 h1 => by rw [Eor.out c h0 h1, rl_or]))
  obtain rfl : Rno = 0 := S5.out.2.2
  obtain rfl : mno = [] := S5.out.2.1
  rw [show ([] : List BN).length = 0 from rfl] at Hgno Nno
  have HBX := Go.Lib.hid (show ∀ w', Below w29.heap.size w29 w' → (fun w' => w'.cell? ⟨gx, 0, none⟩ = some (.int .i64 n) ∧ w'.cell? ⟨gx, 1, none⟩ = some (.slice ax mx.length kx) ∧ w'.cell? ⟨gx, 2, none⟩ = some (.int .i64 Rx) ∧ w'.cell? ⟨gy, 0, none⟩ = some (.int .i64 n) ∧ w'.cell? ⟨gy, 1, none⟩ = some (.slice ay my.length ky) ∧ w'.cell? ⟨gy, 2, none⟩ = some (.int .i64 Ry) ∧ w'.cell? ⟨gbk, 0, none⟩ = some (.int .i64 n) ∧ w'.cell? ⟨gbk, 1, none⟩ = some (.slice abk mbk.length kbk) ∧ w'.cell? ⟨gbk, 2, none⟩ = some (.int .i64 Rbk) ∧ w'.cell? ⟨ga, 0, none⟩ = some (.int .i64 n) ∧ w'.cell? ⟨ga, 1, none⟩ = some (.slice aa ma.length ka) ∧ w'.cell? ⟨ga, 2, none⟩ = some (.int .i64 Ra) ∧ w'.cell? ⟨gab, 0, none⟩ = some (.int .i64 n) ∧ w'.cell? ⟨gab, 1, none⟩ = some (.slice aab mab.length kab) ∧ w'.cell? ⟨gab, 2, none⟩ = some (.int .i64 Rab) ∧ w'.cell? ⟨git, 0, none⟩ = some (.int .i64 n) ∧ w'.cell? ⟨git, 1, none⟩ = some (.slice ait mit.length kit) ∧ w'.cell? ⟨git, 2, none⟩ = some (.int .i64 Rit) ∧ w'.cell? ⟨gxo, 0, none⟩ = some (.int .i64 n) ∧ w'.cell? ⟨gxo, 1, none⟩ = some (.slice axo mxo.length kxo) ∧ w'.cell? ⟨gxo, 2, none⟩ = some (.int .i64 Rxo) ∧ w'.cell? ⟨gan, 0, none⟩ = some (.int .i64 n) ∧ w'.cell? ⟨gan, 1, none⟩ = some (.slice aan man.length kan) ∧ w'.cell? ⟨gan, 2, none⟩ = some (.int .i64 Ran) ∧ w'.cell? ⟨gor, 0, none⟩ = some (.int .i64 n) ∧ w'.cell? ⟨gor, 1, none⟩ = some (.slice aor mor.length kor) ∧ w'.cell? ⟨gor, 2, none⟩ = some (.int .i64 Ror) ∧ w'.cell? ⟨gb, 0, none⟩ = some (.int .i64 n) ∧ w'.cell? ⟨gb, 1, none⟩ = some (.slice ab mb.length kb) ∧ w'.cell? ⟨gb, 2, none⟩ = some (.int .i64 Rb) ∧ w'.cell? ⟨gno, 1, none⟩ = some (.slice ano 0 kno) ∧ w'.cell? ⟨gno, 2, none⟩ = some (.int .i64 0)) w' from fun w' hb => ⟨keepc hb lgx (cell_of_block (i := 0) Hgx.out (v := .int .i64 n) rfl), keepc hb lgx (cell_of_block (i := 1) Hgx.out (v := .slice ax mx.length kx) rfl), keepc hb lgx (cell_of_block (i := 2) Hgx.out (v := .int .i64 Rx) rfl), keepc hb lgy (cell_of_block (i := 0) Hgy.out (v := .int .i64 n) rfl), keepc hb lgy (cell_of_block (i := 1) Hgy.out (v := .slice ay my.length ky) rfl), keepc hb lgy (cell_of_block (i := 2) Hgy.out (v := .int .i64 Ry) rfl), keepc hb lgbk (cell_of_block (i := 0) Hgbk.out (v := .int .i64 n) rfl), keepc hb lgbk (cell_of_block (i := 1) Hgbk.out (v := .slice abk mbk.length kbk) rfl), keepc hb lgbk (cell_of_block (i := 2) Hgbk.out (v := .int .i64 Rbk) rfl), keepc hb lga (cell_of_block (i := 0) Hga.out (v := .int .i64 n) rfl), keepc hb lga (cell_of_block (i := 1) Hga.out (v := .slice aa ma.length ka) rfl), keepc hb lga (cell_of_block (i := 2) Hga.out (v := .int .i64 Ra) rfl), keepc hb lgab (cell_of_block (i := 0) Hgab.out (v := .int .i64 n) rfl), keepc hb lgab (cell_of_block (i := 1) Hgab.out (v := .slice aab mab.length kab) rfl), keepc hb lgab (cell_of_block (i := 2) Hgab.out (v := .int .i64 Rab) rfl), keepc hb lgit (cell_of_block (i := 0) Hgit.out (v := .int .i64 n) rfl), keepc hb lgit (cell_of_block (i := 1) Hgit.out (v := .slice ait mit.length kit) rfl), keepc hb lgit (cell_of_block (i := 2) Hgit.out (v := .int .i64 Rit) rfl), keepc hb lgxo (cell_of_block (i := 0) Hgxo.out (v := .int .i64 n) rfl), keepc hb lgxo (cell_of_block (i := 1) Hgxo.out (v := .slice axo mxo.length kxo) rfl), keepc hb lgxo (cell_of_block (i := 2) Hgxo.out (v := .int .i64 Rxo) rfl), keepc hb lgan (cell_of_block (i := 0) Hgan.out (v := .int .i64 n) rfl), keepc hb lgan (cell_of_block (i := 1) Hgan.out (v := .slice aan man.length kan) rfl), keepc hb lgan (cell_of_block (i := 2) Hgan.out (v := .int .i64 Ran) rfl), keepc hb lgor (cell_of_block (i := 0) Hgor.out (v := .int .i64 n) rfl), keepc hb lgor (cell_of_block (i := 1) Hgor.out (v := .slice aor mor.length kor) rfl), keepc hb lgor (cell_of_block (i := 2) Hgor.out (v := .int .i64 Ror) rfl), keepc hb lgb (cell_of_block (i := 0) Hgb.out (v := .int .i64 n) rfl), keepc hb lgb (cell_of_block (i := 1) Hgb.out (v := .slice ab mb.length kb) rfl), keepc hb lgb (cell_of_block (i := 2) Hgb.out (v := .int .i64 Rb) rfl), keepc hb lgno (cell_of_block (i := 1) Hgno.out (v := .slice ano 0 kno) rfl), keepc hb lgno (cell_of_block (i := 2) Hgno.out (v := .int .i64 0) rfl)⟩)
  have HQ0 := Go.Lib.hid (show Below w29.heap.size w29 w29.drew from (Below.refl _ w29).drew)
  have hS0 := HBX.out _ HQ0.out
  have HAN := Go.Lib.hid Aan.out
  clear GL S5 Aa Ab Ana Anb Aan Aor Axo Ax Ay Abk Aab Ait Ano Ena Enb Ean Eor Exo Ex Ey Ebk Eab Eit Eno Ona Onb Oxo Ox Oy Obk Oab Oit Ono Nna Nnb Nno
  clear Hga lga Hgb lgb Hgna lgna Hgnb lgnb Hgan lgan Hgor lgor Hgxo lgxo Hgx lgx Hgy lgy Hgbk lgbk Hgab lgab Hgit lgit Hgno lgno
  refine wp_region_held_drew (S := (fun w' => w'.cell? ⟨gx, 0, none⟩ = some (.int .i64 n) ∧ w'.cell? ⟨gx, 1, none⟩ = some (.slice ax mx.length kx) ∧ w'.cell? ⟨gx, 2, none⟩ = some (.int .i64 Rx) ∧ w'.cell? ⟨gy, 0, none⟩ = some (.int .i64 n) ∧ w'.cell? ⟨gy, 1, none⟩ = some (.slice ay my.length ky) ∧ w'.cell? ⟨gy, 2, none⟩ = some (.int .i64 Ry) ∧ w'.cell? ⟨gbk, 0, none⟩ = some (.int .i64 n) ∧ w'.cell? ⟨gbk, 1, none⟩ = some (.slice abk mbk.length kbk) ∧ w'.cell? ⟨gbk, 2, none⟩ = some (.int .i64 Rbk) ∧ w'.cell? ⟨ga, 0, none⟩ = some (.int .i64 n) ∧ w'.cell? ⟨ga, 1, none⟩ = some (.slice aa ma.length ka) ∧ w'.cell? ⟨ga, 2, none⟩ = some (.int .i64 Ra) ∧ w'.cell? ⟨gab, 0, none⟩ = some (.int .i64 n) ∧ w'.cell? ⟨gab, 1, none⟩ = some (.slice aab mab.length kab) ∧ w'.cell? ⟨gab, 2, none⟩ = some (.int .i64 Rab) ∧ w'.cell? ⟨git, 0, none⟩ = some (.int .i64 n) ∧ w'.cell? ⟨git, 1, none⟩ = some (.slice ait mit.length kit) ∧ w'.cell? ⟨git, 2, none⟩ = some (.int .i64 Rit) ∧ w'.cell? ⟨gxo, 0, none⟩ = some (.int .i64 n) ∧ w'.cell? ⟨gxo, 1, none⟩ = some (.slice axo mxo.length kxo) ∧ w'.cell? ⟨gxo, 2, none⟩ = some (.int .i64 Rxo) ∧ w'.cell? ⟨gan, 0, none⟩ = some (.int .i64 n) ∧ w'.cell? ⟨gan, 1, none⟩ = some (.slice aan man.length kan) ∧ w'.cell? ⟨gan, 2, none⟩ = some (.int .i64 Ran) ∧ w'.cell? ⟨gor, 0, none⟩ = some (.int .i64 n) ∧ w'.cell? ⟨gor, 1, none⟩ = some (.slice aor mor.length kor) ∧ w'.cell? ⟨gor, 2, none⟩ = some (.int .i64 Ror) ∧ w'.cell? ⟨gb, 0, none⟩ = some (.int .i64 n) ∧ w'.cell? ⟨gb, 1, none⟩ = some (.slice ab mb.length kb) ∧ w'.cell? ⟨gb, 2, none⟩ = some (.int .i64 Rb) ∧ w'.cell? ⟨gno, 1, none⟩ = some (.slice ano 0 kno) ∧ w'.cell? ⟨gno, 2, none⟩ = some (.int .i64 0))) (by kernel_rfl) ?_ (fun hHeld => ?_)
  · first | exact hS0 | exact HBX.out _ HQ12.out | exact HBX.out _ HQ11.out | exact HBX.out _ HQ10.out | exact HBX.out _ HQ9.out | exact HBX.out _ HQ8.out | exact HBX.out _ HQ7.out | exact HBX.out _ HQ6.out | exact HBX.out _ HQ5.out | exact HBX.out _ HQ4.out | exact HBX.out _ HQ3.out | exact HBX.out _ HQ2.out | exact HBX.out _ HQ1.out | exact HBX.out _ HQ0.out
  refine tL 0 (some 139) ?_
  refine tL 1 (some 140) ?_
  refine wpAnyH_ready (rs := [2]) (by kernel_rfl) (by simp) ?_
  refine AllReadyH.cons (o := _) rfl (fun K hK => ?_) AllReadyH.nil
  go_simp
  refine (c_ldBdd (B := w29.heap.size) n Rx n Ry _ HQ0.out.size (Nx.out.below HQ0.out) (Ny.out.below HQ0.out)).mono ?_
  rintro e v1 ⟨hb, hq⟩
  have HQ1 := Go.Lib.hid (HQ0.out.trans (hq.mono HQ0.out.size))
  obtain rfl := boolIs_t S1.out hb
  clear hb hq
  (try go_wp2_with fail)
  (try clear hHeld)
  refine hK.out _ _ ?_ (fun hHeld => ?_)
  · first | exact hS0 | exact HBX.out _ HQ12.out | exact HBX.out _ HQ11.out | exact HBX.out _ HQ10.out | exact HBX.out _ HQ9.out | exact HBX.out _ HQ8.out | exact HBX.out _ HQ7.out | exact HBX.out _ HQ6.out | exact HBX.out _ HQ5.out | exact HBX.out _ HQ4.out | exact HBX.out _ HQ3.out | exact HBX.out _ HQ2.out | exact HBX.out _ HQ1.out | exact HBX.out _ HQ0.out
  clear hK K
  (try simp only [Act.put, List.setIfInBounds_toArray, List.set_cons_zero, List.set_cons_succ])
  refine tL 3 (some 142) ?_
  refine tL 4 (some 143) ?_
  refine tL 5 (some 144) ?_
  refine wpAnyH_ready (rs := [6]) (by kernel_rfl) (by simp) ?_
  refine AllReadyH.cons (o := _) rfl (fun K hK => ?_) AllReadyH.nil
  go_simp
  refine (c_ldBdd (B := w29.heap.size) n Rbk n Ra _ HQ1.out.size (Nbk.out.below HQ1.out) (Na.out.below HQ1.out)).mono ?_
  rintro e v2 ⟨hb, hq⟩
  have HQ2 := Go.Lib.hid (HQ1.out.trans (hq.mono HQ1.out.size))
  obtain rfl := boolIs_t S2.out hb
  clear hb hq
  (try go_wp2_with fail)
  (try clear hHeld)
  refine hK.out _ _ ?_ (fun hHeld => ?_)
  · first | exact hS0 | exact HBX.out _ HQ12.out | exact HBX.out _ HQ11.out | exact HBX.out _ HQ10.out | exact HBX.out _ HQ9.out | exact HBX.out _ HQ8.out | exact HBX.out _ HQ7.out | exact HBX.out _ HQ6.out | exact HBX.out _ HQ5.out | exact HBX.out _ HQ4.out | exact HBX.out _ HQ3.out | exact HBX.out _ HQ2.out | exact HBX.out _ HQ1.out | exact HBX.out _ HQ0.out
  clear hK K
  (try simp only [Act.put, List.setIfInBounds_toArray, List.set_cons_zero, List.set_cons_succ])
  refine tL 7 (some 146) ?_
  refine tL 8 (some 147) ?_
  refine tL 9 (some 148) ?_
  refine tL 10 (some 149) ?_
  refine wpAnyH_ready (rs := [11]) (by kernel_rfl) (by simp) ?_
  refine AllReadyH.cons (o := _) rfl (fun K hK => ?_) AllReadyH.nil
  go_simp
  refine (c_ldBdd (B := w29.heap.size) n Rab n Ra _ HQ2.out.size (Nab.out.below HQ2.out) (Na.out.below HQ2.out)).mono ?_
  rintro e v3 ⟨hb, hq⟩
  have HQ3 := Go.Lib.hid (HQ2.out.trans (hq.mono HQ2.out.size))
  obtain rfl := boolIs_t S3.out hb
  clear hb hq
  (try go_wp2_with fail)
  (try clear hHeld)
  refine hK.out _ _ ?_ (fun hHeld => ?_)
  · first | exact hS0 | exact HBX.out _ HQ12.out | exact HBX.out _ HQ11.out | exact HBX.out _ HQ10.out | exact HBX.out _ HQ9.out | exact HBX.out _ HQ8.out | exact HBX.out _ HQ7.out | exact HBX.out _ HQ6.out | exact HBX.out _ HQ5.out | exact HBX.out _ HQ4.out | exact HBX.out _ HQ3.out | exact HBX.out _ HQ2.out | exact HBX.out _ HQ1.out | exact HBX.out _ HQ0.out
  clear hK K
  (try simp only [Act.put, List.setIfInBounds_toArray, List.set_cons_zero, List.set_cons_succ])
  refine tL 12 (some 151) ?_
  refine tL 13 (some 152) ?_
  refine tL 14 (some 153) ?_
  refine tL 15 (some 154) ?_
  refine wpAnyH_ready (rs := [16]) (by kernel_rfl) (by simp) ?_
  refine AllReadyH.cons (o := _) rfl (fun K hK => ?_) AllReadyH.nil
  go_simp
  refine (c_ldBdd (B := w29.heap.size) n Rit n Rxo _ HQ3.out.size (Nit.out.below HQ3.out) (Nxo.out.below HQ3.out)).mono ?_
  rintro e v4 ⟨hb, hq⟩
  have HQ4 := Go.Lib.hid (HQ3.out.trans (hq.mono HQ3.out.size))
  obtain rfl := boolIs_t S4.out hb
  clear hb hq
  (try go_wp2_with fail)
  (try clear hHeld)
  refine hK.out _ _ ?_ (fun hHeld => ?_)
  · first | exact hS0 | exact HBX.out _ HQ12.out | exact HBX.out _ HQ11.out | exact HBX.out _ HQ10.out | exact HBX.out _ HQ9.out | exact HBX.out _ HQ8.out | exact HBX.out _ HQ7.out | exact HBX.out _ HQ6.out | exact HBX.out _ HQ5.out | exact HBX.out _ HQ4.out | exact HBX.out _ HQ3.out | exact HBX.out _ HQ2.out | exact HBX.out _ HQ1.out | exact HBX.out _ HQ0.out
  clear hK K
  (try simp only [Act.put, List.setIfInBounds_toArray, List.set_cons_zero, List.set_cons_succ])
  refine tL 17 (some 156) ?_
  refine tL 18 (some 157) ?_
  refine tL 19 (some 158) ?_
  refine tL 20 (some 159) ?_
  refine tL 21 (some 160) ?_
  refine tL 22 (some 161) ?_
  refine tL 23 (some 162) ?_
  refine tL 24 (some 163) ?_
  refine tL 25 (some 164) ?_
  refine tL 26 (some 165) ?_
  refine tL 27 (some 166) ?_
  refine tL 28 (some 167) ?_
  refine tL 29 (some 168) ?_
  refine tL 30 (some 169) ?_
  refine tL 32 (some 171) ?_
  refine tL 35 (some 174) ?_
  refine tL 37 (some 176) ?_
  refine wpAnyH_ready (rs := [31]) (by kernel_rfl) (by simp) ?_
  refine AllReadyH.cons (o := _) rfl (fun K hK => ?_) AllReadyH.nil
  go_simp
  refine (c_BddCountI (B := w29.heap.size) n Ran _ HQ4.out.size (Nan.out.below HQ4.out)).mono ?_
  rintro e v5 ⟨tan, rfl, hc, hq⟩
  have HQ5 := Go.Lib.hid (HQ4.out.trans (hq.mono HQ4.out.size))
  obtain ⟨zan, zan0, zan1⟩ := hc.is Oan.out (by omega)
  have Zan := Go.Lib.hid zan
  clear hc hq zan
  (try go_wp2_with fail)
  (try clear hHeld)
  refine hK.out _ _ ?_ (fun hHeld => ?_)
  · first | exact hS0 | exact HBX.out _ HQ12.out | exact HBX.out _ HQ11.out | exact HBX.out _ HQ10.out | exact HBX.out _ HQ9.out | exact HBX.out _ HQ8.out | exact HBX.out _ HQ7.out | exact HBX.out _ HQ6.out | exact HBX.out _ HQ5.out | exact HBX.out _ HQ4.out | exact HBX.out _ HQ3.out | exact HBX.out _ HQ2.out | exact HBX.out _ HQ1.out | exact HBX.out _ HQ0.out
  clear hK K
  (try simp only [Act.put, List.setIfInBounds_toArray, List.set_cons_zero, List.set_cons_succ])
  refine wpAnyH_ready (rs := [33]) (by kernel_rfl) (by simp) ?_
  refine AllReadyH.cons (o := _) rfl (fun K hK => ?_) AllReadyH.nil
  go_simp
  refine (c_BddCountI (B := w29.heap.size) n Ror _ HQ5.out.size (Nor.out.below HQ5.out)).mono ?_
  rintro e v6 ⟨tor, rfl, hc, hq⟩
  have HQ6 := Go.Lib.hid (HQ5.out.trans (hq.mono HQ5.out.size))
  obtain ⟨zor, zor0, zor1⟩ := hc.is Oor.out (by omega)
  have Zor := Go.Lib.hid zor
  clear hc hq zor
  (try go_wp2_with fail)
  (try clear hHeld)
  refine hK.out _ _ ?_ (fun hHeld => ?_)
  · first | exact hS0 | exact HBX.out _ HQ12.out | exact HBX.out _ HQ11.out | exact HBX.out _ HQ10.out | exact HBX.out _ HQ9.out | exact HBX.out _ HQ8.out | exact HBX.out _ HQ7.out | exact HBX.out _ HQ6.out | exact HBX.out _ HQ5.out | exact HBX.out _ HQ4.out | exact HBX.out _ HQ3.out | exact HBX.out _ HQ2.out | exact HBX.out _ HQ1.out | exact HBX.out _ HQ0.out
  clear hK K
  (try simp only [Act.put, List.setIfInBounds_toArray, List.set_cons_zero, List.set_cons_succ])
  refine tL 34 (some 173) ?_
  refine wpAnyH_ready (rs := [36]) (by kernel_rfl) (by simp) ?_
  refine AllReadyH.cons (o := _) rfl (fun K hK => ?_) AllReadyH.nil
  go_simp
  refine (c_BddCountI (B := w29.heap.size) n Ra _ HQ6.out.size (Na.out.below HQ6.out)).mono ?_
  rintro e v7 ⟨ta, rfl, hc, hq⟩
  have HQ7 := Go.Lib.hid (HQ6.out.trans (hq.mono HQ6.out.size))
  obtain ⟨za, za0, za1⟩ := hc.is Oa.out (by omega)
  have Za := Go.Lib.hid za
  clear hc hq za
  (try go_wp2_with fail)
  (try clear hHeld)
  refine hK.out _ _ ?_ (fun hHeld => ?_)
  · first | exact hS0 | exact HBX.out _ HQ12.out | exact HBX.out _ HQ11.out | exact HBX.out _ HQ10.out | exact HBX.out _ HQ9.out | exact HBX.out _ HQ8.out | exact HBX.out _ HQ7.out | exact HBX.out _ HQ6.out | exact HBX.out _ HQ5.out | exact HBX.out _ HQ4.out | exact HBX.out _ HQ3.out | exact HBX.out _ HQ2.out | exact HBX.out _ HQ1.out | exact HBX.out _ HQ0.out
  clear hK K
  (try simp only [Act.put, List.setIfInBounds_toArray, List.set_cons_zero, List.set_cons_succ])
  refine wpAnyH_ready (rs := [38]) (by kernel_rfl) (by simp) ?_
  refine AllReadyH.cons (o := _) rfl (fun K hK => ?_) AllReadyH.nil
  go_simp
  refine (c_BddCountI (B := w29.heap.size) n Rb _ HQ7.out.size (Nb.out.below HQ7.out)).mono ?_
  rintro e v8 ⟨tb, rfl, hc, hq⟩
  have HQ8 := Go.Lib.hid (HQ7.out.trans (hq.mono HQ7.out.size))
  obtain ⟨zb, zb0, zb1⟩ := hc.is Ob.out (by omega)
  have Zb := Go.Lib.hid zb
  clear hc hq zb
  have HSU := Go.Lib.hid (show tan + tor = ta + tb by rw [Zan.out, Zor.out, Za.out, Zb.out]; exact SC.out)
  have hsu : tan + tor = ta + tb := HSU.out
  (try go_wp2_with fail)
  (try clear hHeld)
  refine hK.out _ _ ?_ (fun hHeld => ?_)
  · first | exact hS0 | exact HBX.out _ HQ12.out | exact HBX.out _ HQ11.out | exact HBX.out _ HQ10.out | exact HBX.out _ HQ9.out | exact HBX.out _ HQ8.out | exact HBX.out _ HQ7.out | exact HBX.out _ HQ6.out | exact HBX.out _ HQ5.out | exact HBX.out _ HQ4.out | exact HBX.out _ HQ3.out | exact HBX.out _ HQ2.out | exact HBX.out _ HQ1.out | exact HBX.out _ HQ0.out
  clear hK K
  (try simp only [Act.put, List.setIfInBounds_toArray, List.set_cons_zero, List.set_cons_succ])
  refine tL 39 (some 178) ?_
  refine tL 40 (some 179) ?_
  refine tL 41 (some 180) ?_
  refine tL 42 (some 181) ?_
  refine tL 43 (some 182) ?_
  refine tL 44 (some 183) ?_
  refine tL 45 (some 184) ?_
  refine wpAnyH_ready (rs := [46]) (by kernel_rfl) (by simp) ?_
  refine AllReadyH.cons (o := _) rfl (fun K hK => ?_) AllReadyH.nil
  go_simp
  refine (c_BddAndS (B := w29.heap.size) n Rb n Ra _ HQ8.out.size (Nb.out.below HQ8.out) (Na.out.below HQ8.out)).mono ?_
  rintro e v9 ⟨x9, V9, R9, b9, m9, rfl, how, hrel, hq⟩
  have HQ9 := Go.Lib.hid (HQ8.out.trans (hq.mono HQ8.out.size))
  obtain ⟨i1, i2, i3, i4, i5⟩ := hrel.few ⟨rfl, Ob.out, Oa.out⟩ ⟨hn0, hn6⟩
  subst i1
  subst i2
  obtain ⟨a9, k9, rfl, -⟩ := OwnN.form how
  have N9 := Go.Lib.hid (OwnN.bns how rfl)
  have S9 := Go.Lib.hid (show SameB n man Ran n m9 R9 from HAN.out.same hn0 i3 (fun c _ _ => by show rl 8 _ _ = rl 8 _ _; rw [rl_and, rl_and, Bool.and_comm]))
  have HZ := Go.Lib.hid hq
  clear how hrel hq i3 i4 i5
  (try go_wp2_with fail)
  (try clear hHeld)
  refine hK.out _ _ ?_ (fun hHeld => ?_)
  · first | exact hS0 | exact HBX.out _ HQ12.out | exact HBX.out _ HQ11.out | exact HBX.out _ HQ10.out | exact HBX.out _ HQ9.out | exact HBX.out _ HQ8.out | exact HBX.out _ HQ7.out | exact HBX.out _ HQ6.out | exact HBX.out _ HQ5.out | exact HBX.out _ HQ4.out | exact HBX.out _ HQ3.out | exact HBX.out _ HQ2.out | exact HBX.out _ HQ1.out | exact HBX.out _ HQ0.out
  clear hK K
  (try simp only [Act.put, List.setIfInBounds_toArray, List.set_cons_zero, List.set_cons_succ])
  refine tL 47 (some 186) ?_
  refine tL 48 (some 187) ?_
  refine wpAnyH_ready (rs := [49]) (by kernel_rfl) (by simp) ?_
  refine AllReadyH.cons (o := _) rfl (fun K hK => ?_) AllReadyH.nil
  go_simp
  refine (c_ldOf n R9 a9 m9.length k9 true _).mono ?_
  rintro e v10 ⟨rfl, hq⟩
  have HQ10 := Go.Lib.hid (HQ9.out.trans (hq.mono HQ9.out.size))
  have N9b := Go.Lib.hid (N9.out.below hq)
  have hz9 := hq.size
  clear hq
  (try go_wp2_with fail)
  (try clear hHeld)
  refine hK.out _ _ ?_ (fun hHeld => ?_)
  · first | exact hS0 | exact HBX.out _ HQ12.out | exact HBX.out _ HQ11.out | exact HBX.out _ HQ10.out | exact HBX.out _ HQ9.out | exact HBX.out _ HQ8.out | exact HBX.out _ HQ7.out | exact HBX.out _ HQ6.out | exact HBX.out _ HQ5.out | exact HBX.out _ HQ4.out | exact HBX.out _ HQ3.out | exact HBX.out _ HQ2.out | exact HBX.out _ HQ1.out | exact HBX.out _ HQ0.out
  clear hK K
  (try simp only [Act.put, List.setIfInBounds_toArray, List.set_cons_zero, List.set_cons_succ])
  refine wpAnyH_ready (rs := [50]) (by kernel_rfl) (by simp) ?_
  refine AllReadyH.cons (o := _) rfl (fun K hK => ?_) AllReadyH.nil
  go_simp
  refine (c_ldBdd (B := v9.heap.size) n Ran n R9 _ hz9 (RowsAt.mono (Nan.out.below HQ10.out) HQ9.out.size) (N9b.out)).mono ?_
  rintro e v11 ⟨hb, hq⟩
  have HQ11 := Go.Lib.hid (HQ10.out.trans (hq.mono HQ10.out.size))
  obtain rfl := boolIs_t S9.out hb
  clear hb hq
  (try go_wp2_with fail)
  (try clear hHeld)
  refine hK.out _ _ ?_ (fun hHeld => ?_)
  · first | exact hS0 | exact HBX.out _ HQ12.out | exact HBX.out _ HQ11.out | exact HBX.out _ HQ10.out | exact HBX.out _ HQ9.out | exact HBX.out _ HQ8.out | exact HBX.out _ HQ7.out | exact HBX.out _ HQ6.out | exact HBX.out _ HQ5.out | exact HBX.out _ HQ4.out | exact HBX.out _ HQ3.out | exact HBX.out _ HQ2.out | exact HBX.out _ HQ1.out | exact HBX.out _ HQ0.out
  clear hK K
  (try simp only [Act.put, List.setIfInBounds_toArray, List.set_cons_zero, List.set_cons_succ])
  refine tL 51 (some 190) ?_
  refine tL 52 (some 4) ?_
  refine wpAnyH_done (by kernel_rfl) ?_ _
  clear hHeld
  go_wp2_with fail
  go_ret
  exact ⟨rfl, HB.out.trans (HQ11.out.mono HB.out.size)⟩
end Go.Proofs.YthdofdglbdfkkaaDoor
