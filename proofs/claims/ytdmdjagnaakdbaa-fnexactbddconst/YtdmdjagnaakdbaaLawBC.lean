/-
  The law of BddConst.
-/
import Derived.Test.YtdmdjagnaakdbaaRows
import Derived.Test.YtdmdjagnaakdbaaG0
import Derived.Test.YtdmdjagnaakdbaaBdM
import Derived.Test.YtdmdjagnaakdbaaBdI
import Derived.Test.YtdmdjagnaakdbaaBdC
import Derived.Test.YtdmdjagnaakdbaaBdN
import Derived.WalkKit
import Derived.ProofKit
import Derived.OpenShut
import Derived.WalkSpells
import Derived.WalkLawsBesides
import Derived.Outline
import Derived.BigQuiet
import Derived.Handy
import Derived.LoopTactic
import Derived.Deep.Light
import Derived.Deep.RegionWith
import Derived.Deep.RegionHeld3
import Derived.Deep.DeepCutAuto
import Derived.Lib.Hide
import Derived.Maps.OwnRows
import Derived.Deep.Onto
import Derived.OneCell
import Derived.StillTailTactics
import Derived.Deep.AppendLies
import Derived.Deep.RegionLaw
namespace Go.Proofs.Ytdmdjagnaakdbaa
open Go.ChangeShapes Go.WideShapes Go.ChangeAt Go.RowKit Go.Maps Go.ChangeMaps
set_option linter.unusedVariables false
set_option maxRecDepth 100000


set_option maxHeartbeats 8000000 in
theorem w_FnExactBddConst (n : Int) (b : Bool) (W : World) :
    Calls Try.prog 4 #[.int .i64 n, .bool b] W fun e w' => e = .returned (.bool true) ∧ Below W.heap.size W w' := by
  obtain ⟨V, R, k, hk⟩ : ∃ V R k, (V, R, k) = cR n b := ⟨_, _, _, rfl⟩
  have HK := Go.Lib.hid hk
  clear hk
  go_enter Try.func4, Try.ntmps4
  go_wp2_with fail
  refine (c_BddConstS n b V R k HK.out W).mono ?_
  rintro e w1 ⟨rfl, hq⟩
  have HB1 := Go.Lib.hid (hq)
  clear hq
  go_upto_region 2 with fail
  refine code_gen (R := fun wb => wb.heap[w1.heap.size]? = some (.cells #[.int .i64 V, .slice none 0 0, .int .i64 R] 29 (0, 0)) ∧ Below w1.heap.size w1 wb) ⟨by first | exact (MapKept.heap_alloc _ _).1 | exact heap_alloc_new _ _, by go_grown⟩ ?_
  rintro w2 ⟨k, hq⟩
  have lga : w1.heap.size < w2.heap.size := (Array.getElem?_eq_some_iff.1 k).1
  have HB2 := Go.Lib.hid (HB1.out.trans (hq.mono HB1.out.size))
  clear hq
  obtain ⟨ga, hga⟩ : ∃ g, w1.heap.size = g := ⟨_, rfl⟩
  rw [hga] at k lga ⊢
  have Hga := Go.Lib.hid k
  clear k hga
  have cga_0 := cell_of_block (i := 0) Hga.out (v := .int .i64 V) rfl
  have cga_1 := cell_of_block (i := 1) Hga.out (v := .slice none 0 0) rfl
  have cga_2 := cell_of_block (i := 2) Hga.out (v := .int .i64 R) rfl
  go_wp2_with fail
  refine (c_BddConstI n b V R k HK.out w2).mono ?_
  rintro e w3 ⟨rfl, hq⟩
  replace Hga := Go.Lib.hid ((hq.block _ lga).trans Hga.out)
  replace lga := Nat.lt_of_lt_of_le lga hq.size
  have HB3 := Go.Lib.hid (HB2.out.trans (hq.mono HB2.out.size))
  clear hq
  clear cga_0 cga_1 cga_2
  go_upto_region 3 with fail
  refine code_gen (R := fun wb => wb.heap[w3.heap.size]? = some (.cells #[.int .i64 V, .slice none 0 0, .int .i64 R] 29 (0, 0)) ∧ Below w3.heap.size w3 wb) ⟨by first | exact (MapKept.heap_alloc _ _).1 | exact heap_alloc_new _ _, by go_grown⟩ ?_
  rintro w4 ⟨k, hq⟩
  have lgb : w3.heap.size < w4.heap.size := (Array.getElem?_eq_some_iff.1 k).1
  replace Hga := Go.Lib.hid ((hq.block _ lga).trans Hga.out)
  replace lga := Nat.lt_of_lt_of_le lga hq.size
  have HB4 := Go.Lib.hid (HB3.out.trans (hq.mono HB3.out.size))
  clear hq
  obtain ⟨gb, hgb⟩ : ∃ g, w3.heap.size = g := ⟨_, rfl⟩
  rw [hgb] at k lgb ⊢
  have Hgb := Go.Lib.hid k
  clear k hgb
  have cga_0 := cell_of_block (i := 0) Hga.out (v := .int .i64 V) rfl
  have cga_1 := cell_of_block (i := 1) Hga.out (v := .slice none 0 0) rfl
  have cga_2 := cell_of_block (i := 2) Hga.out (v := .int .i64 R) rfl
  have cgb_0 := cell_of_block (i := 0) Hgb.out (v := .int .i64 V) rfl
  have cgb_1 := cell_of_block (i := 1) Hgb.out (v := .slice none 0 0) rfl
  have cgb_2 := cell_of_block (i := 2) Hgb.out (v := .int .i64 R) rfl
  go_wp2_with fail
  refine ((c_eqBdd (B := w4.heap.size) V R w4 (Nat.le_refl _) (nil_bns _ _) (nil_bns _ _)).mono fun e w' h => h).mono ?_
  rintro e w5 ⟨rfl, hq⟩
  replace Hga := Go.Lib.hid ((hq.block _ lga).trans Hga.out)
  replace lga := Nat.lt_of_lt_of_le lga hq.size
  replace Hgb := Go.Lib.hid ((hq.block _ lgb).trans Hgb.out)
  replace lgb := Nat.lt_of_lt_of_le lgb hq.size
  have HB5 := Go.Lib.hid (HB4.out.trans (hq.mono HB4.out.size))
  clear hq
  clear cga_0 cga_1 cga_2 cgb_0 cgb_1 cgb_2
  have cga_0 := cell_of_block (i := 0) Hga.out (v := .int .i64 V) rfl
  have cga_1 := cell_of_block (i := 1) Hga.out (v := .slice none 0 0) rfl
  have cga_2 := cell_of_block (i := 2) Hga.out (v := .int .i64 R) rfl
  have cgb_0 := cell_of_block (i := 0) Hgb.out (v := .int .i64 V) rfl
  have cgb_1 := cell_of_block (i := 1) Hgb.out (v := .slice none 0 0) rfl
  have cgb_2 := cell_of_block (i := 2) Hgb.out (v := .int .i64 R) rfl
  go_wp2_with fail
  refine (c_markBddNil V R 1 (by omega) w5).mono ?_
  rintro e w6 ⟨rfl, hq⟩
  replace Hga := Go.Lib.hid ((hq.block _ lga).trans Hga.out)
  replace lga := Nat.lt_of_lt_of_le lga hq.size
  replace Hgb := Go.Lib.hid ((hq.block _ lgb).trans Hgb.out)
  replace lgb := Nat.lt_of_lt_of_le lgb hq.size
  have HB6 := Go.Lib.hid (HB5.out.trans (hq.mono HB5.out.size))
  clear hq
  clear cga_0 cga_1 cga_2 cgb_0 cgb_1 cgb_2
  have cga_0 := cell_of_block (i := 0) Hga.out (v := .int .i64 V) rfl
  have cga_1 := cell_of_block (i := 1) Hga.out (v := .slice none 0 0) rfl
  have cga_2 := cell_of_block (i := 2) Hga.out (v := .int .i64 R) rfl
  have cgb_0 := cell_of_block (i := 0) Hgb.out (v := .int .i64 V) rfl
  have cgb_1 := cell_of_block (i := 1) Hgb.out (v := .slice none 0 0) rfl
  have cgb_2 := cell_of_block (i := 2) Hgb.out (v := .int .i64 R) rfl
  go_wp2_with fail
  refine (c_heldBddNil V R 1 (by omega) w6).mono ?_
  rintro e w7 ⟨rfl, hq⟩
  replace Hga := Go.Lib.hid ((hq.block _ lga).trans Hga.out)
  replace lga := Nat.lt_of_lt_of_le lga hq.size
  replace Hgb := Go.Lib.hid ((hq.block _ lgb).trans Hgb.out)
  replace lgb := Nat.lt_of_lt_of_le lgb hq.size
  have HB7 := Go.Lib.hid (HB6.out.trans (hq.mono HB6.out.size))
  clear hq
  clear cga_0 cga_1 cga_2 cgb_0 cgb_1 cgb_2
  have cga_0 := cell_of_block (i := 0) Hga.out (v := .int .i64 V) rfl
  have cga_1 := cell_of_block (i := 1) Hga.out (v := .slice none 0 0) rfl
  have cga_2 := cell_of_block (i := 2) Hga.out (v := .int .i64 R) rfl
  have cgb_0 := cell_of_block (i := 0) Hgb.out (v := .int .i64 V) rfl
  have cgb_1 := cell_of_block (i := 1) Hgb.out (v := .slice none 0 0) rfl
  have cgb_2 := cell_of_block (i := 2) Hgb.out (v := .int .i64 R) rfl
  go_wp2_with fail
  refine (c_BddConstI n b V R k HK.out w7).mono ?_
  rintro e w8 ⟨rfl, hq⟩
  replace Hga := Go.Lib.hid ((hq.block _ lga).trans Hga.out)
  replace lga := Nat.lt_of_lt_of_le lga hq.size
  replace Hgb := Go.Lib.hid ((hq.block _ lgb).trans Hgb.out)
  replace lgb := Nat.lt_of_lt_of_le lgb hq.size
  have HB8 := Go.Lib.hid (HB7.out.trans (hq.mono HB7.out.size))
  clear hq
  clear cga_0 cga_1 cga_2 cgb_0 cgb_1 cgb_2
  go_upto_region 14 with fail
  refine code_gen (R := fun wb => wb.heap[w8.heap.size]? = some (.cells #[.int .i64 V, .slice none 0 0, .int .i64 R] 29 (0, 0)) ∧ Below w8.heap.size w8 wb) ⟨by first | exact (MapKept.heap_alloc _ _).1 | exact heap_alloc_new _ _, by go_grown⟩ ?_
  rintro w9 ⟨k, hq⟩
  have lgc : w8.heap.size < w9.heap.size := (Array.getElem?_eq_some_iff.1 k).1
  replace Hga := Go.Lib.hid ((hq.block _ lga).trans Hga.out)
  replace lga := Nat.lt_of_lt_of_le lga hq.size
  replace Hgb := Go.Lib.hid ((hq.block _ lgb).trans Hgb.out)
  replace lgb := Nat.lt_of_lt_of_le lgb hq.size
  have HB9 := Go.Lib.hid (HB8.out.trans (hq.mono HB8.out.size))
  clear hq
  obtain ⟨gc, hgc⟩ : ∃ g, w8.heap.size = g := ⟨_, rfl⟩
  rw [hgc] at k lgc ⊢
  have Hgc := Go.Lib.hid k
  clear k hgc
  have cga_0 := cell_of_block (i := 0) Hga.out (v := .int .i64 V) rfl
  have cga_1 := cell_of_block (i := 1) Hga.out (v := .slice none 0 0) rfl
  have cga_2 := cell_of_block (i := 2) Hga.out (v := .int .i64 R) rfl
  have cgb_0 := cell_of_block (i := 0) Hgb.out (v := .int .i64 V) rfl
  have cgb_1 := cell_of_block (i := 1) Hgb.out (v := .slice none 0 0) rfl
  have cgb_2 := cell_of_block (i := 2) Hgb.out (v := .int .i64 R) rfl
  have cgc_0 := cell_of_block (i := 0) Hgc.out (v := .int .i64 V) rfl
  have cgc_1 := cell_of_block (i := 1) Hgc.out (v := .slice none 0 0) rfl
  have cgc_2 := cell_of_block (i := 2) Hgc.out (v := .int .i64 R) rfl
  go_wp2_with fail
  refine ((c_eqBdd (B := w9.heap.size) V R w9 (Nat.le_refl _) (nil_bns _ _) (nil_bns _ _)).mono fun e w' h => h).mono ?_
  rintro e w10 ⟨rfl, hq⟩
  replace Hga := Go.Lib.hid ((hq.block _ lga).trans Hga.out)
  replace lga := Nat.lt_of_lt_of_le lga hq.size
  replace Hgb := Go.Lib.hid ((hq.block _ lgb).trans Hgb.out)
  replace lgb := Nat.lt_of_lt_of_le lgb hq.size
  replace Hgc := Go.Lib.hid ((hq.block _ lgc).trans Hgc.out)
  replace lgc := Nat.lt_of_lt_of_le lgc hq.size
  have HB10 := Go.Lib.hid (HB9.out.trans (hq.mono HB9.out.size))
  clear hq
  clear cga_0 cga_1 cga_2 cgb_0 cgb_1 cgb_2 cgc_0 cgc_1 cgc_2
  have cga_0 := cell_of_block (i := 0) Hga.out (v := .int .i64 V) rfl
  have cga_1 := cell_of_block (i := 1) Hga.out (v := .slice none 0 0) rfl
  have cga_2 := cell_of_block (i := 2) Hga.out (v := .int .i64 R) rfl
  have cgb_0 := cell_of_block (i := 0) Hgb.out (v := .int .i64 V) rfl
  have cgb_1 := cell_of_block (i := 1) Hgb.out (v := .slice none 0 0) rfl
  have cgb_2 := cell_of_block (i := 2) Hgb.out (v := .int .i64 R) rfl
  have cgc_0 := cell_of_block (i := 0) Hgc.out (v := .int .i64 V) rfl
  have cgc_1 := cell_of_block (i := 1) Hgc.out (v := .slice none 0 0) rfl
  have cgc_2 := cell_of_block (i := 2) Hgc.out (v := .int .i64 R) rfl
  go_wp2_with fail
  refine (c_heldBddNil V R 1 (by omega) w10).mono ?_
  rintro e w11 ⟨rfl, hq⟩
  replace Hga := Go.Lib.hid ((hq.block _ lga).trans Hga.out)
  replace lga := Nat.lt_of_lt_of_le lga hq.size
  replace Hgb := Go.Lib.hid ((hq.block _ lgb).trans Hgb.out)
  replace lgb := Nat.lt_of_lt_of_le lgb hq.size
  replace Hgc := Go.Lib.hid ((hq.block _ lgc).trans Hgc.out)
  replace lgc := Nat.lt_of_lt_of_le lgc hq.size
  have HB11 := Go.Lib.hid (HB10.out.trans (hq.mono HB10.out.size))
  clear hq
  clear cga_0 cga_1 cga_2 cgb_0 cgb_1 cgb_2 cgc_0 cgc_1 cgc_2
  go_wp2_with fail
  go_ret
  exact ⟨rfl, HB11.out⟩
end Go.Proofs.Ytdmdjagnaakdbaa
