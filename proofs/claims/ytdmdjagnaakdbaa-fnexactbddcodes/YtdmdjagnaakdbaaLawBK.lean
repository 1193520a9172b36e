/-
  The law of BddCodes.
-/
import Derived.Test.YtdmdjagnaakdbaaRows
import Derived.Test.YtdmdjagnaakdbaaPaA
import Derived.Test.YtdmdjagnaakdbaaG0
import Derived.Test.YtdmdjagnaakdbaaBdM
import Derived.Test.YtdmdjagnaakdbaaBdI
import Derived.Test.YtdmdjagnaakdbaaBdL
import Derived.Test.YtdmdjagnaakdbaaBdT
import Derived.Test.YtdmdjagnaakdbaaBdC
import Derived.Test.YtdmdjagnaakdbaaBdP
import Derived.Test.YtdmdjagnaakdbaaBdR
import Derived.Test.YtdmdjagnaakdbaaBdV
import Derived.Test.YtdmdjagnaakdbaaBdW
import Derived.Test.YtdmdjagnaakdbaaBdX
import Derived.WalkKit
import Derived.ProofKit
import Derived.OpenShut
import Derived.WalkSpells
import Derived.WalkLawsBesides
import Derived.Outline
import Derived.BigQuiet
import Derived.Handy
import Derived.LoopTactic
import Derived.Deep.Light
import Derived.Deep.RegionWith
import Derived.Deep.RegionHeld3
import Derived.Deep.DeepCutAuto
import Derived.Lib.Hide
import Derived.Maps.OwnRows
import Derived.Deep.Onto
import Derived.OneCell
import Derived.StillTailTactics
import Derived.Deep.AppendLies
import Derived.Deep.RegionLaw
namespace Go.Proofs.Ytdmdjagnaakdbaa
open Go.ChangeShapes Go.WideShapes Go.ChangeAt Go.RowKit Go.Maps Go.ChangeMaps
set_option linter.unusedVariables false
set_option maxRecDepth 100000


set_option maxHeartbeats 16000000 in
theorem w_FnExactBddCodes {vars root : Int} {a : Option Addr} {len cap : Nat} {ns : List BN} (W : World) (h : BnsAt W.heap.size W a len cap ns) :
    Calls Try.prog 10 #[.agg #[.int .i64 vars, .slice a len cap, .int .i64 root]] W fun e w' => e = .returned (.bool true) ∧ Below W.heap.size W w' := by
  have HN := Go.Lib.hid h
  clear h
  go_enter Try.func10, Try.ntmps10
  go_upto_region 2 with fail
  refine code_gen (R := fun wb => wb.heap[W.heap.size]? = some (.cells #[.int .i64 vars, .slice a len cap, .int .i64 root] 24 (0, 0)) ∧ Below W.heap.size W wb) ⟨by first | exact (MapKept.heap_alloc _ _).1 | exact heap_alloc_new _ _, by go_grown⟩ ?_
  rintro w1 ⟨k, hq⟩
  have lB0 : W.heap.size < w1.heap.size := (Array.getElem?_eq_some_iff.1 k).1
  have HB := Go.Lib.hid hq
  have HB0 := Go.Lib.hid k
  clear k hq
  have cB0_0 := cell_of_block (i := 0) HB0.out (v := .int .i64 vars) rfl
  have cB0_1 := cell_of_block (i := 1) HB0.out (v := .slice a len cap) rfl
  have cB0_2 := cell_of_block (i := 2) HB0.out (v := .int .i64 root) rfl
  go_wp2_with fail
  refine (c_szBdd (B := W.heap.size) vars root w1 HB.out.size (HN.out.below HB.out)).mono ?_
  rintro e w2 ⟨r, rfl, hr, hq⟩
  replace HB0 := Go.Lib.hid ((hq.block _ lB0).trans HB0.out)
  replace lB0 := Nat.lt_of_lt_of_le lB0 hq.size
  replace HB := Go.Lib.hid (HB.out.trans (hq.mono HB.out.size))
  clear cB0_0 cB0_1 cB0_2
  have HR := Go.Lib.hid hr
  clear hr hq
  by_cases hn : r < 0
  · go_wp2_with fail
    go_ret
    exact ⟨rfl, HB.out⟩
  have hlen : len ≤ 1048576 := by have := HR.out (by omega); omega
  have cB0_0 := cell_of_block (i := 0) HB0.out (v := .int .i64 vars) rfl
  have cB0_1 := cell_of_block (i := 1) HB0.out (v := .slice a len cap) rfl
  have cB0_2 := cell_of_block (i := 2) HB0.out (v := .int .i64 root) rfl
  go_wp2_with fail
  refine (c_toBdd (B := W.heap.size) vars root w2 HB.out.size (HN.out.below HB.out) hlen).mono ?_
  rintro e w3 ⟨g, rfl, hc, -, -, hq⟩
  replace HB0 := Go.Lib.hid ((hq.block _ lB0).trans HB0.out)
  replace lB0 := Nat.lt_of_lt_of_le lB0 hq.size
  replace HB := Go.Lib.hid (HB.out.trans (hq.mono HB.out.size))
  clear cB0_0 cB0_1 cB0_2
  have HC := Go.Lib.hid hc
  clear hc hq
  have cB0_0 := cell_of_block (i := 0) HB0.out (v := .int .i64 vars) rfl
  have cB0_1 := cell_of_block (i := 1) HB0.out (v := .slice a len cap) rfl
  have cB0_2 := cell_of_block (i := 2) HB0.out (v := .int .i64 root) rfl
  go_wp2_with fail
  refine (c_BddCodesS (B := w3.heap.size) vars root w3 (Nat.le_refl _) HC.out).mono ?_
  rintro e w4 ⟨vw, zs, q1, rfl, how, hcr, hq⟩
  replace HB0 := Go.Lib.hid ((hq.block _ lB0).trans HB0.out)
  replace lB0 := Nat.lt_of_lt_of_le lB0 hq.size
  replace HB := Go.Lib.hid (HB.out.trans (hq.mono HB.out.size))
  clear cB0_0 cB0_1 cB0_2
  have HOW := Go.Lib.hid how
  have HCR := Go.Lib.hid hcr
  have HVW := Go.Lib.hid (show ∀ y, vw.ownBlock = some y → y < w4.heap.size from fun y hy => (how.1.lt y hy).2)
  have hlw : zs.length ≤ 1048576 := by have := hcr.len; omega
  clear how hcr hq HC
  obtain ⟨aw, cw, rfl, -⟩ := own_form HOW.out
  have cB0_0 := cell_of_block (i := 0) HB0.out (v := .int .i64 vars) rfl
  have cB0_1 := cell_of_block (i := 1) HB0.out (v := .slice a len cap) rfl
  have cB0_2 := cell_of_block (i := 2) HB0.out (v := .int .i64 root) rfl
  have lB0o := lB0
  go_wp2_with fail
  refine (c_toBdd (B := W.heap.size) vars root w4 HB.out.size (HN.out.below HB.out) hlen).mono ?_
  rintro e w5 ⟨g, rfl, hc, hrm, hg, hq⟩
  replace HB0 := Go.Lib.hid ((hq.block _ lB0).trans HB0.out)
  replace lB0 := Nat.lt_of_lt_of_le lB0 hq.size
  replace HOW := Go.Lib.hid (ownI_below HOW.out hq)
  replace HB := Go.Lib.hid (HB.out.trans (hq.mono HB.out.size))
  clear cB0_0 cB0_1 cB0_2
  have HC := Go.Lib.hid hc
  have HRM := Go.Lib.hid hrm
  have HVG := Go.Lib.hid (show ∀ y, Value.ownBlock (.slice aw zs.length cw) = some y → y < g from fun y hy => Nat.lt_of_lt_of_le (HVW.out y hy) hg)
  have hgW : W.heap.size < g := Nat.lt_of_lt_of_le lB0o hg
  have hgl : g < w5.heap.size := hrm.1
  clear hc hrm hg hq HVW
  have cB0_0 := cell_of_block (i := 0) HB0.out (v := .int .i64 vars) rfl
  have cB0_1 := cell_of_block (i := 1) HB0.out (v := .slice a len cap) rfl
  have cB0_2 := cell_of_block (i := 2) HB0.out (v := .int .i64 root) rfl
  go_upto_region 7 with fail
  refine code_gen (R := fun wb => wb.heap[w5.heap.size]? = some (.cells #[.int .i64 vars, .slice (some ⟨g, 0, none⟩) len len, .int .i64 root] 29 (0, 0)) ∧ Below w5.heap.size w5 wb) ⟨by first | exact (MapKept.heap_alloc _ _).1 | exact heap_alloc_new _ _, by go_grown⟩ ?_
  rintro w6 ⟨k, hq⟩
  have lgx : w5.heap.size < w6.heap.size := (Array.getElem?_eq_some_iff.1 k).1
  replace HB0 := Go.Lib.hid ((hq.block _ lB0).trans HB0.out)
  replace lB0 := Nat.lt_of_lt_of_le lB0 hq.size
  replace HOW := Go.Lib.hid (ownI_below HOW.out hq)
  replace HC := Go.Lib.hid ((HC.out.below hq).mono hq.size)
  replace HRM := Go.Lib.hid (HRM.out.below hq)
  replace HB := Go.Lib.hid (HB.out.trans (hq.mono HB.out.size))
  clear cB0_0 cB0_1 cB0_2
  obtain ⟨gx, hgx⟩ : ∃ g, w5.heap.size = g := ⟨_, rfl⟩
  rw [hgx] at k lgx ⊢
  have HEgx := Go.Lib.hid hgx
  have Hgx := Go.Lib.hid k
  clear k hq hgx
  have hgx : g < gx := by rw [← HEgx.out]; exact hgl
  have hx5 : gx < w6.heap.size := lgx
  have cB0_0 := cell_of_block (i := 0) HB0.out (v := .int .i64 vars) rfl
  have cB0_1 := cell_of_block (i := 1) HB0.out (v := .slice a len cap) rfl
  have cB0_2 := cell_of_block (i := 2) HB0.out (v := .int .i64 root) rfl
  have cgx_0 := cell_of_block (i := 0) Hgx.out (v := .int .i64 vars) rfl
  have cgx_1 := cell_of_block (i := 1) Hgx.out (v := .slice (some ⟨g, 0, none⟩) len len) rfl
  have cgx_2 := cell_of_block (i := 2) Hgx.out (v := .int .i64 root) rfl
  go_wp2_with fail
  refine (c_BddCodesI (B := w6.heap.size) vars root w6 (Nat.le_refl _) HC.out).mono ?_
  rintro e w7 ⟨vg, zs', q2, rfl, hog, hcr, hq⟩
  replace HB0 := Go.Lib.hid ((hq.block _ lB0).trans HB0.out)
  replace lB0 := Nat.lt_of_lt_of_le lB0 hq.size
  replace Hgx := Go.Lib.hid ((hq.block _ lgx).trans Hgx.out)
  replace lgx := Nat.lt_of_lt_of_le lgx hq.size
  replace HOW := Go.Lib.hid (ownI_below HOW.out hq)
  replace HC := Go.Lib.hid ((HC.out.below hq).mono hq.size)
  replace HRM := Go.Lib.hid (HRM.out.below hq)
  replace HB := Go.Lib.hid (HB.out.trans (hq.mono HB.out.size))
  clear cB0_0 cB0_1 cB0_2 cgx_0 cgx_1 cgx_2
  obtain ⟨rfl, rfl⟩ := hcr.inj HCR.out
  have HOG := Go.Lib.hid hog
  obtain ⟨ag, cg, rfl, hfm⟩ := own_form hog
  have HRG := Go.Lib.hid (ownS_of hfm)
  clear hog hcr hfm hq
  have cB0_0 := cell_of_block (i := 0) HB0.out (v := .int .i64 vars) rfl
  have cB0_1 := cell_of_block (i := 1) HB0.out (v := .slice a len cap) rfl
  have cB0_2 := cell_of_block (i := 2) HB0.out (v := .int .i64 root) rfl
  have cgx_0 := cell_of_block (i := 0) Hgx.out (v := .int .i64 vars) rfl
  have cgx_1 := cell_of_block (i := 1) Hgx.out (v := .slice (some ⟨g, 0, none⟩) len len) rfl
  have cgx_2 := cell_of_block (i := 2) Hgx.out (v := .int .i64 root) rfl
  go_wp2_with fail
  refine (c_eqIntsB (B := w7.heap.size) w7 (Nat.le_refl _) (own_ints HOG.out rfl) (own_ints HOW.out rfl)).mono ?_
  rintro e w8 ⟨rfl, hq⟩
  replace HB0 := Go.Lib.hid ((hq.block _ lB0).trans HB0.out)
  replace lB0 := Nat.lt_of_lt_of_le lB0 hq.size
  replace Hgx := Go.Lib.hid ((hq.block _ lgx).trans Hgx.out)
  replace lgx := Nat.lt_of_lt_of_le lgx hq.size
  replace HOW := Go.Lib.hid (ownI_below HOW.out hq)
  replace HC := Go.Lib.hid ((HC.out.below hq).mono hq.size)
  replace HRM := Go.Lib.hid (HRM.out.below hq)
  replace HOG := Go.Lib.hid (ownI_below HOG.out hq)
  replace HRG := Go.Lib.hid (HRG.out.below hq)
  replace HB := Go.Lib.hid (HB.out.trans (hq.mono HB.out.size))
  clear cB0_0 cB0_1 cB0_2 cgx_0 cgx_1 cgx_2
  clear hq
  have cB0_0 := cell_of_block (i := 0) HB0.out (v := .int .i64 vars) rfl
  have cB0_1 := cell_of_block (i := 1) HB0.out (v := .slice a len cap) rfl
  have cB0_2 := cell_of_block (i := 2) HB0.out (v := .int .i64 root) rfl
  have cgx_0 := cell_of_block (i := 0) Hgx.out (v := .int .i64 vars) rfl
  have cgx_1 := cell_of_block (i := 1) Hgx.out (v := .slice (some ⟨g, 0, none⟩) len len) rfl
  have cgx_2 := cell_of_block (i := 2) Hgx.out (v := .int .i64 root) rfl
  go_upto_region 10 with fail
  refine wp_region_held_drew (S := (fun w' => w'.cell? ⟨W.heap.size, 0, none⟩ = some (.int .i64 vars) ∧ w'.cell? ⟨W.heap.size, 1, none⟩ = some (.slice a len cap) ∧ w'.cell? ⟨W.heap.size, 2, none⟩ = some (.int .i64 root) ∧ w'.cell? ⟨gx, 0, none⟩ = some (.int .i64 vars) ∧ w'.cell? ⟨gx, 1, none⟩ = some (.slice (some ⟨g, 0, none⟩) len len) ∧ w'.cell? ⟨gx, 2, none⟩ = some (.int .i64 root))) (by kernel_rfl) ?_ (fun hHeld => ?_)
  · first | exact ⟨cB0_0, cB0_1, cB0_2, cgx_0, cgx_1, cgx_2⟩ | exact ⟨keepc HQ8.out lB0 cB0_0, keepc HQ8.out lB0 cB0_1, keepc HQ8.out lB0 cB0_2, keepc HQ8.out lgx cgx_0, keepc HQ8.out lgx cgx_1, keepc HQ8.out lgx cgx_2⟩ | exact ⟨keepc HQ7.out lB0 cB0_0, keepc HQ7.out lB0 cB0_1, keepc HQ7.out lB0 cB0_2, keepc HQ7.out lgx cgx_0, keepc HQ7.out lgx cgx_1, keepc HQ7.out lgx cgx_2⟩
  refine tL 0 (some 41) ?_
  refine tL 1 (some 42) ?_
  refine wpAnyH_ready (rs := [2]) (by kernel_rfl) (by simp) ?_
  refine AllReadyH.cons (o := _) rfl (fun K hK => ?_) AllReadyH.nil
  go_simp
  refine (c_toBdd (B := W.heap.size) vars root w8.drew HB.out.size ((HN.out.below HB.out).below (Below.refl _ w8).drew) hlen).mono ?_
  rintro e wt ⟨h, rfl, hd, -, -, hq⟩
  have HD := Go.Lib.hid hd
  have HQ7 := Go.Lib.hid (show Below w8.heap.size w8 wt from ⟨hq.os, hq.tape, hq.output, hq.size, hq.block⟩)
  clear hd hq
  (try go_wp2_with fail)
  (try clear hHeld)
  refine hK.out _ _ ?_ (fun hHeld => ?_)
  · first | exact ⟨cB0_0, cB0_1, cB0_2, cgx_0, cgx_1, cgx_2⟩ | exact ⟨keepc HQ8.out lB0 cB0_0, keepc HQ8.out lB0 cB0_1, keepc HQ8.out lB0 cB0_2, keepc HQ8.out lgx cgx_0, keepc HQ8.out lgx cgx_1, keepc HQ8.out lgx cgx_2⟩ | exact ⟨keepc HQ7.out lB0 cB0_0, keepc HQ7.out lB0 cB0_1, keepc HQ7.out lB0 cB0_2, keepc HQ7.out lgx cgx_0, keepc HQ7.out lgx cgx_1, keepc HQ7.out lgx cgx_2⟩
  clear hK K
  (try simp only [Act.put, List.setIfInBounds_toArray, List.set_cons_zero, List.set_cons_succ])
  refine wpAnyH_ready (rs := [3]) (by kernel_rfl) (by simp) ?_
  refine AllReadyH.cons (o := _) rfl (fun K hK => ?_) AllReadyH.nil
  go_simp
  refine (c_eqBdd (B := wt.heap.size) vars root wt (Nat.le_refl _) ((HC.out.below HQ7.out).mono HQ7.out.size) HD.out).mono ?_
  rintro e we ⟨rfl, hq⟩
  have HQ8 := Go.Lib.hid (HQ7.out.trans (hq.mono HQ7.out.size))
  clear hq
  (try go_wp2_with fail)
  (try clear hHeld)
  refine hK.out _ _ ?_ (fun hHeld => ?_)
  · first | exact ⟨cB0_0, cB0_1, cB0_2, cgx_0, cgx_1, cgx_2⟩ | exact ⟨keepc HQ8.out lB0 cB0_0, keepc HQ8.out lB0 cB0_1, keepc HQ8.out lB0 cB0_2, keepc HQ8.out lgx cgx_0, keepc HQ8.out lgx cgx_1, keepc HQ8.out lgx cgx_2⟩ | exact ⟨keepc HQ7.out lB0 cB0_0, keepc HQ7.out lB0 cB0_1, keepc HQ7.out lB0 cB0_2, keepc HQ7.out lgx cgx_0, keepc HQ7.out lgx cgx_1, keepc HQ7.out lgx cgx_2⟩
  clear hK K
  (try simp only [Act.put, List.setIfInBounds_toArray, List.set_cons_zero, List.set_cons_succ])
  refine tL 4 (some 45) ?_
  refine wpAnyH_done (by kernel_rfl) ?_ _
  clear hHeld
  go_upto_region 13 with fail
  refine code_gen (R := fun wb => Below w8.heap.size w8 wb) (by first | exact HQ8.out | exact HQ8.out.drew | go_grown) ?_
  clear HQ7 HQ8 HD
  rintro w9 hq
  replace HB0 := Go.Lib.hid ((hq.block _ lB0).trans HB0.out)
  replace lB0 := Nat.lt_of_lt_of_le lB0 hq.size
  replace Hgx := Go.Lib.hid ((hq.block _ lgx).trans Hgx.out)
  replace lgx := Nat.lt_of_lt_of_le lgx hq.size
  replace HOW := Go.Lib.hid (ownI_below HOW.out hq)
  replace HC := Go.Lib.hid ((HC.out.below hq).mono hq.size)
  replace HRM := Go.Lib.hid (HRM.out.below hq)
  replace HOG := Go.Lib.hid (ownI_below HOG.out hq)
  replace HRG := Go.Lib.hid (HRG.out.below hq)
  replace HB := Go.Lib.hid (HB.out.trans (hq.mono HB.out.size))
  clear cB0_0 cB0_1 cB0_2 cgx_0 cgx_1 cgx_2
  clear hq
  clear HC
  have cB0_0 := cell_of_block (i := 0) HB0.out (v := .int .i64 vars) rfl
  have cB0_1 := cell_of_block (i := 1) HB0.out (v := .slice a len cap) rfl
  have cB0_2 := cell_of_block (i := 2) HB0.out (v := .int .i64 root) rfl
  have cgx_0 := cell_of_block (i := 0) Hgx.out (v := .int .i64 vars) rfl
  have cgx_1 := cell_of_block (i := 1) Hgx.out (v := .slice (some ⟨g, 0, none⟩) len len) rfl
  have cgx_2 := cell_of_block (i := 2) Hgx.out (v := .int .i64 root) rfl
  go_wp2_with fail
  refine (c_markBdd (T := fun b => b = g) rfl vars root 1 (by omega) (by omega) hlen w9 HRM.out (fun e => by have e1 : w9.heap.size = g := e; have := HRM.out.1; omega)).mono ?_
  rintro e w10 ⟨rfl, ht, -, -⟩
  replace HB0 := Go.Lib.hid ((ht.block _ lB0 (fun e => by have e1 : W.heap.size = g := e; omega)).trans HB0.out)
  replace lB0 := Nat.lt_of_lt_of_le lB0 ht.size
  replace Hgx := Go.Lib.hid ((ht.block _ lgx (fun e => by have e1 : gx = g := e; omega)).trans Hgx.out)
  replace lgx := Nat.lt_of_lt_of_le lgx ht.size
  replace HOW := Go.Lib.hid (own_touch HOW.out ht (fun y _ _ hy e => by have e1 : y = g := e; have := HVG.out y hy; omega))
  replace HOG := Go.Lib.hid (own_touch HOG.out ht (fun y hy _ _ e => by have e1 : y = g := e; omega))
  replace HRG := Go.Lib.hid (HRG.out.touch ht)
  replace HB := Go.Lib.hid (HB.out.trans (ht.belowAt (B := W.heap.size) HB.out.size (fun b hb => by have e1 : b = g := hb; omega)))
  clear cB0_0 cB0_1 cB0_2 cgx_0 cgx_1 cgx_2
  clear ht HRM
  have hq9 : ¬ (1 + 3 * (len : Int)) < 0 := by omega
  have cB0_0 := cell_of_block (i := 0) HB0.out (v := .int .i64 vars) rfl
  have cB0_1 := cell_of_block (i := 1) HB0.out (v := .slice a len cap) rfl
  have cB0_2 := cell_of_block (i := 2) HB0.out (v := .int .i64 root) rfl
  have cgx_0 := cell_of_block (i := 0) Hgx.out (v := .int .i64 vars) rfl
  have cgx_1 := cell_of_block (i := 1) Hgx.out (v := .slice (some ⟨g, 0, none⟩) len len) rfl
  have cgx_2 := cell_of_block (i := 2) Hgx.out (v := .int .i64 root) rfl
  go_wp2_with fail
  refine (c_eqIntsB (B := w10.heap.size) w10 (Nat.le_refl _) (own_ints HOG.out rfl) (own_ints HOW.out rfl)).mono ?_
  rintro e w11 ⟨rfl, hq⟩
  replace HB0 := Go.Lib.hid ((hq.block _ lB0).trans HB0.out)
  replace lB0 := Nat.lt_of_lt_of_le lB0 hq.size
  replace Hgx := Go.Lib.hid ((hq.block _ lgx).trans Hgx.out)
  replace lgx := Nat.lt_of_lt_of_le lgx hq.size
  replace HOW := Go.Lib.hid (ownI_below HOW.out hq)
  replace HOG := Go.Lib.hid (ownI_below HOG.out hq)
  replace HRG := Go.Lib.hid (HRG.out.below hq)
  replace HB := Go.Lib.hid (HB.out.trans (hq.mono HB.out.size))
  clear cB0_0 cB0_1 cB0_2 cgx_0 cgx_1 cgx_2
  clear hq
  clear HOG
  have cB0_0 := cell_of_block (i := 0) HB0.out (v := .int .i64 vars) rfl
  have cB0_1 := cell_of_block (i := 1) HB0.out (v := .slice a len cap) rfl
  have cB0_2 := cell_of_block (i := 2) HB0.out (v := .int .i64 root) rfl
  have cgx_0 := cell_of_block (i := 0) Hgx.out (v := .int .i64 vars) rfl
  have cgx_1 := cell_of_block (i := 1) Hgx.out (v := .slice (some ⟨g, 0, none⟩) len len) rfl
  have cgx_2 := cell_of_block (i := 2) Hgx.out (v := .int .i64 root) rfl
  go_wp2_with fail
  refine (c_markIntSL (T := fun b => w6.heap.size ≤ b) hlw w11 HRG.out).mono ?_
  rintro e w12 ⟨rfl, ht, hhd⟩
  replace HB0 := Go.Lib.hid ((ht.block _ lB0 (fun e => by have e1 : w6.heap.size ≤ W.heap.size := e; omega)).trans HB0.out)
  replace lB0 := Nat.lt_of_lt_of_le lB0 ht.size
  replace Hgx := Go.Lib.hid ((ht.block _ lgx (fun e => by have e1 : w6.heap.size ≤ gx := e; omega)).trans Hgx.out)
  replace lgx := Nat.lt_of_lt_of_le lgx ht.size
  replace HOW := Go.Lib.hid (own_touch HOW.out ht (fun y _ _ hy e => by have e1 : w6.heap.size ≤ y := e; have := HVG.out y hy; omega))
  replace HB := Go.Lib.hid (HB.out.trans (ht.belowAt (B := W.heap.size) HB.out.size (fun b hb => by have e1 : w6.heap.size ≤ b := hb; omega)))
  clear cB0_0 cB0_1 cB0_2 cgx_0 cgx_1 cgx_2
  have HHD := Go.Lib.hid hhd
  clear ht hhd HRG
  have cB0_0 := cell_of_block (i := 0) HB0.out (v := .int .i64 vars) rfl
  have cB0_1 := cell_of_block (i := 1) HB0.out (v := .slice a len cap) rfl
  have cB0_2 := cell_of_block (i := 2) HB0.out (v := .int .i64 root) rfl
  have cgx_0 := cell_of_block (i := 0) Hgx.out (v := .int .i64 vars) rfl
  have cgx_1 := cell_of_block (i := 1) Hgx.out (v := .slice (some ⟨g, 0, none⟩) len len) rfl
  have cgx_2 := cell_of_block (i := 2) Hgx.out (v := .int .i64 root) rfl
  go_wp2_with fail
  refine (c_heldIntSL hlw w12 HHD.out).mono ?_
  rintro e wsame ⟨rfl, hws⟩
  cases hws
  clear cB0_0 cB0_1 cB0_2 cgx_0 cgx_1 cgx_2
  have hp1 : ¬ (1 + (zs'.length : Int)) < 0 := by omega
  have cB0_0 := cell_of_block (i := 0) HB0.out (v := .int .i64 vars) rfl
  have cB0_1 := cell_of_block (i := 1) HB0.out (v := .slice a len cap) rfl
  have cB0_2 := cell_of_block (i := 2) HB0.out (v := .int .i64 root) rfl
  have cgx_0 := cell_of_block (i := 0) Hgx.out (v := .int .i64 vars) rfl
  have cgx_1 := cell_of_block (i := 1) Hgx.out (v := .slice (some ⟨g, 0, none⟩) len len) rfl
  have cgx_2 := cell_of_block (i := 2) Hgx.out (v := .int .i64 root) rfl
  go_wp2_with fail
  refine (c_toBdd (B := W.heap.size) vars root w12 HB.out.size (HN.out.below HB.out) hlen).mono ?_
  rintro e w13 ⟨g2, rfl, hc, -, -, hq⟩
  replace HB0 := Go.Lib.hid ((hq.block _ lB0).trans HB0.out)
  replace lB0 := Nat.lt_of_lt_of_le lB0 hq.size
  replace Hgx := Go.Lib.hid ((hq.block _ lgx).trans Hgx.out)
  replace lgx := Nat.lt_of_lt_of_le lgx hq.size
  replace HOW := Go.Lib.hid (ownI_below HOW.out hq)
  replace HHD := Go.Lib.hid (HHD.out.below hq)
  replace HB := Go.Lib.hid (HB.out.trans (hq.mono HB.out.size))
  clear cB0_0 cB0_1 cB0_2 cgx_0 cgx_1 cgx_2
  have HC := Go.Lib.hid hc
  clear hc hq
  have cB0_0 := cell_of_block (i := 0) HB0.out (v := .int .i64 vars) rfl
  have cB0_1 := cell_of_block (i := 1) HB0.out (v := .slice a len cap) rfl
  have cB0_2 := cell_of_block (i := 2) HB0.out (v := .int .i64 root) rfl
  have cgx_0 := cell_of_block (i := 0) Hgx.out (v := .int .i64 vars) rfl
  have cgx_1 := cell_of_block (i := 1) Hgx.out (v := .slice (some ⟨g, 0, none⟩) len len) rfl
  have cgx_2 := cell_of_block (i := 2) Hgx.out (v := .int .i64 root) rfl
  go_wp2_with fail
  refine (c_BddCodesI (B := w13.heap.size) vars root w13 (Nat.le_refl _) HC.out).mono ?_
  rintro e w14 ⟨vh, zs2, q3, rfl, hoh, hcr, hq⟩
  replace HB0 := Go.Lib.hid ((hq.block _ lB0).trans HB0.out)
  replace lB0 := Nat.lt_of_lt_of_le lB0 hq.size
  replace Hgx := Go.Lib.hid ((hq.block _ lgx).trans Hgx.out)
  replace lgx := Nat.lt_of_lt_of_le lgx hq.size
  replace HOW := Go.Lib.hid (ownI_below HOW.out hq)
  replace HHD := Go.Lib.hid (HHD.out.below hq)
  replace HB := Go.Lib.hid (HB.out.trans (hq.mono HB.out.size))
  clear cB0_0 cB0_1 cB0_2 cgx_0 cgx_1 cgx_2
  obtain ⟨rfl, rfl⟩ := hcr.inj HCR.out
  have HOG := Go.Lib.hid hoh
  obtain ⟨ah, ch, rfl, -⟩ := own_form hoh
  clear hoh hcr hq HC
  have cB0_0 := cell_of_block (i := 0) HB0.out (v := .int .i64 vars) rfl
  have cB0_1 := cell_of_block (i := 1) HB0.out (v := .slice a len cap) rfl
  have cB0_2 := cell_of_block (i := 2) HB0.out (v := .int .i64 root) rfl
  have cgx_0 := cell_of_block (i := 0) Hgx.out (v := .int .i64 vars) rfl
  have cgx_1 := cell_of_block (i := 1) Hgx.out (v := .slice (some ⟨g, 0, none⟩) len len) rfl
  have cgx_2 := cell_of_block (i := 2) Hgx.out (v := .int .i64 root) rfl
  go_wp2_with fail
  refine (c_eqIntsB (B := w14.heap.size) w14 (Nat.le_refl _) (own_ints HOG.out rfl) (own_ints HOW.out rfl)).mono ?_
  rintro e w15 ⟨rfl, hq⟩
  replace HB0 := Go.Lib.hid ((hq.block _ lB0).trans HB0.out)
  replace lB0 := Nat.lt_of_lt_of_le lB0 hq.size
  replace Hgx := Go.Lib.hid ((hq.block _ lgx).trans Hgx.out)
  replace lgx := Nat.lt_of_lt_of_le lgx hq.size
  replace HOW := Go.Lib.hid (ownI_below HOW.out hq)
  replace HHD := Go.Lib.hid (HHD.out.below hq)
  replace HB := Go.Lib.hid (HB.out.trans (hq.mono HB.out.size))
  clear cB0_0 cB0_1 cB0_2 cgx_0 cgx_1 cgx_2
  clear hq
  have cB0_0 := cell_of_block (i := 0) HB0.out (v := .int .i64 vars) rfl
  have cB0_1 := cell_of_block (i := 1) HB0.out (v := .slice a len cap) rfl
  have cB0_2 := cell_of_block (i := 2) HB0.out (v := .int .i64 root) rfl
  have cgx_0 := cell_of_block (i := 0) Hgx.out (v := .int .i64 vars) rfl
  have cgx_1 := cell_of_block (i := 1) Hgx.out (v := .slice (some ⟨g, 0, none⟩) len len) rfl
  have cgx_2 := cell_of_block (i := 2) Hgx.out (v := .int .i64 root) rfl
  go_wp2_with fail
  refine (c_heldIntSL hlw w15 HHD.out).mono ?_
  rintro e wsame ⟨rfl, hws⟩
  cases hws
  clear cB0_0 cB0_1 cB0_2 cgx_0 cgx_1 cgx_2
  go_wp2_with fail
  go_ret
  exact ⟨rfl, HB.out⟩
end Go.Proofs.Ytdmdjagnaakdbaa
