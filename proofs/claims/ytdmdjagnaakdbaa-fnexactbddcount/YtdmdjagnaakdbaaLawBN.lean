/-
  The law of BddCount.
-/
import Derived.Test.YtdmdjagnaakdbaaRows
import Derived.Test.YtdmdjagnaakdbaaG0
import Derived.Test.YtdmdjagnaakdbaaBdM
import Derived.Test.YtdmdjagnaakdbaaBdI
import Derived.Test.YtdmdjagnaakdbaaBdL
import Derived.Test.YtdmdjagnaakdbaaBdT
import Derived.Test.YtdmdjagnaakdbaaBdC
import Derived.Test.YtdmdjagnaakdbaaBdP
import Derived.Test.YtdmdjagnaakdbaaBdR
import Derived.Test.YtdmdjagnaakdbaaBdV
import Derived.WalkKit
import Derived.ProofKit
import Derived.OpenShut
import Derived.WalkSpells
import Derived.WalkLawsBesides
import Derived.Outline
import Derived.BigQuiet
import Derived.Handy
import Derived.LoopTactic
import Derived.Deep.Light
import Derived.Deep.RegionWith
import Derived.Deep.RegionHeld3
import Derived.Deep.DeepCutAuto
import Derived.Lib.Hide
import Derived.Maps.OwnRows
import Derived.Deep.Onto
import Derived.OneCell
import Derived.StillTailTactics
import Derived.Deep.AppendLies
import Derived.Deep.RegionLaw
namespace Go.Proofs.Ytdmdjagnaakdbaa
open Go.ChangeShapes Go.WideShapes Go.ChangeAt Go.RowKit Go.Maps Go.ChangeMaps
set_option linter.unusedVariables false
set_option maxRecDepth 100000


set_option maxHeartbeats 8000000 in
theorem w_FnExactBddCount {vars root : Int} {a : Option Addr} {len cap : Nat} {ns : List BN} (W : World) (h : BnsAt W.heap.size W a len cap ns) :
    Calls Try.prog 7 #[.agg #[.int .i64 vars, .slice a len cap, .int .i64 root]] W fun e w' => e = .returned (.bool true) ∧ Below W.heap.size W w' := by
  have HN := Go.Lib.hid h
  clear h
  go_enter Try.func7, Try.ntmps7
  go_upto_region 2 with fail
  refine code_gen (R := fun wb => wb.heap[W.heap.size]? = some (.cells #[.int .i64 vars, .slice a len cap, .int .i64 root] 24 (0, 0)) ∧ Below W.heap.size W wb) ⟨by first | exact (MapKept.heap_alloc _ _).1 | exact heap_alloc_new _ _, by go_grown⟩ ?_
  rintro w0 ⟨k0, b0⟩
  have HK0 := Go.Lib.hid k0
  have HB0 := Go.Lib.hid b0
  have hl0 : W.heap.size < w0.heap.size := (Array.getElem?_eq_some_iff.1 k0).1
  have x0 := cell_of_block (i := 0) k0 (v := .int .i64 vars) rfl
  have x1 := cell_of_block (i := 1) k0 (v := .slice a len cap) rfl
  have x2 := cell_of_block (i := 2) k0 (v := .int .i64 root) rfl
  clear k0 b0
  go_wp2_with fail
  refine (c_szBdd (B := W.heap.size) vars root w0 HB0.out.size (HN.out.below HB0.out)).mono ?_
  rintro e w1 ⟨r, rfl, hr, hq⟩
  have HK1 := Go.Lib.hid ((hq.block _ hl0).trans HK0.out)
  have HB1 := Go.Lib.hid (HB0.out.trans (hq.mono HB0.out.size))
  have hl1 := Nat.lt_of_lt_of_le hl0 hq.size
  have HR := Go.Lib.hid hr
  clear hq hr x0 x1 x2
  by_cases hn : r < 0
  · go_wp2_with fail
    go_ret
    exact ⟨rfl, HB1.out⟩
  have hlen : len ≤ 1048576 := by have := HR.out (by omega); omega
  have x0 := cell_of_block (i := 0) HK1.out (v := .int .i64 vars) rfl
  have x1 := cell_of_block (i := 1) HK1.out (v := .slice a len cap) rfl
  have x2 := cell_of_block (i := 2) HK1.out (v := .int .i64 root) rfl
  go_wp2_with fail
  refine (c_toBdd (B := W.heap.size) vars root w1 HB1.out.size (HN.out.below HB1.out) hlen).mono ?_
  rintro e w2 ⟨g, rfl, hc, -, hg, hq⟩
  have HC := Go.Lib.hid hc
  have HK2 := Go.Lib.hid ((hq.block _ hl1).trans HK1.out)
  have HB2 := Go.Lib.hid (HB1.out.trans (hq.mono HB1.out.size))
  have hl2 := Nat.lt_of_lt_of_le hl1 hq.size
  clear hc hg hq x0 x1 x2
  go_wp2_with fail
  refine (c_BddCountS (B := w2.heap.size) vars root w2 (Nat.le_refl _) HC.out).mono ?_
  rintro e w3 ⟨r1, rfl, hq1, hq⟩
  have HQ1 := Go.Lib.hid hq1
  have HK3 := Go.Lib.hid ((hq.block _ hl2).trans HK2.out)
  have HB3 := Go.Lib.hid (HB2.out.trans (hq.mono HB2.out.size))
  have hl3 := Nat.lt_of_lt_of_le hl2 hq.size
  clear hq1 hq HC
  have x0 := cell_of_block (i := 0) HK3.out (v := .int .i64 vars) rfl
  have x1 := cell_of_block (i := 1) HK3.out (v := .slice a len cap) rfl
  have x2 := cell_of_block (i := 2) HK3.out (v := .int .i64 root) rfl
  go_wp2_with fail
  refine (c_toBdd (B := W.heap.size) vars root w3 HB3.out.size (HN.out.below HB3.out) hlen).mono ?_
  rintro e w4 ⟨g, rfl, hc, -, hg, hq⟩
  have HC := Go.Lib.hid hc
  have HK4 := Go.Lib.hid ((hq.block _ hl3).trans HK3.out)
  have HB4 := Go.Lib.hid (HB3.out.trans (hq.mono HB3.out.size))
  have hl4 := Nat.lt_of_lt_of_le hl3 hq.size
  clear hc hg hq x0 x1 x2
  go_upto_region 7 with fail
  refine code_gen (R := fun wb => wb.heap[w4.heap.size]? = some (.cells #[.int .i64 vars, .slice (some ⟨g, 0, none⟩) len len, .int .i64 root] 29 (0, 0)) ∧ Below w4.heap.size w4 wb) ⟨by first | exact (MapKept.heap_alloc _ _).1 | exact heap_alloc_new _ _, by go_grown⟩ ?_
  rintro w5 ⟨k5, b5⟩
  obtain ⟨gx, hgx⟩ : ∃ gx, w4.heap.size = gx := ⟨_, rfl⟩
  have hl5 : W.heap.size < w5.heap.size := Nat.lt_of_lt_of_le hl4 b5.size
  have hm5 : w4.heap.size < w5.heap.size := (Array.getElem?_eq_some_iff.1 k5).1
  have HK5 := Go.Lib.hid ((b5.block _ hl4).trans HK4.out)
  have HB5 := Go.Lib.hid (HB4.out.trans (b5.mono HB4.out.size))
  have HC5 := Go.Lib.hid ((HC.out.below b5).mono b5.size)
  rw [hgx] at k5 hm5 ⊢
  have HX5 := Go.Lib.hid k5
  have y0 := cell_of_block (i := 0) k5 (v := .int .i64 vars) rfl
  have y1 := cell_of_block (i := 1) k5 (v := .slice (some ⟨g, 0, none⟩) len len) rfl
  have y2 := cell_of_block (i := 2) k5 (v := .int .i64 root) rfl
  clear k5 b5 hgx HC
  go_wp2_with fail
  refine (c_BddCountI (B := w5.heap.size) vars root w5 (Nat.le_refl _) HC5.out).mono ?_
  rintro e w6 ⟨r2, rfl, hq2, hq⟩
  obtain rfl := hq2.inj HQ1.out
  have HK6 := Go.Lib.hid ((hq.block _ hl5).trans HK5.out)
  have HX6 := Go.Lib.hid ((hq.block _ hm5).trans HX5.out)
  have HB6 := Go.Lib.hid (HB5.out.trans (hq.mono HB5.out.size))
  have HC6 := Go.Lib.hid ((HC5.out.below hq).mono hq.size)
  have hl6 := Nat.lt_of_lt_of_le hl5 hq.size
  have hm6 := Nat.lt_of_lt_of_le hm5 hq.size
  clear hq hq2 y0 y1 y2 HC5
  have x0 := cell_of_block (i := 0) HK6.out (v := .int .i64 vars) rfl
  have x1 := cell_of_block (i := 1) HK6.out (v := .slice a len cap) rfl
  have x2 := cell_of_block (i := 2) HK6.out (v := .int .i64 root) rfl
  have y0 := cell_of_block (i := 0) HX6.out (v := .int .i64 vars) rfl
  have y1 := cell_of_block (i := 1) HX6.out (v := .slice (some ⟨g, 0, none⟩) len len) rfl
  have y2 := cell_of_block (i := 2) HX6.out (v := .int .i64 root) rfl
  go_upto_region 10 with fail
  refine wp_region_held_drew (S := (fun w' => w'.cell? ⟨W.heap.size, 0, none⟩ = some (.int .i64 vars) ∧ w'.cell? ⟨W.heap.size, 1, none⟩ = some (.slice a len cap) ∧ w'.cell? ⟨W.heap.size, 2, none⟩ = some (.int .i64 root) ∧ w'.cell? ⟨gx, 0, none⟩ = some (.int .i64 vars) ∧ w'.cell? ⟨gx, 1, none⟩ = some (.slice (some ⟨g, 0, none⟩) len len) ∧ w'.cell? ⟨gx, 2, none⟩ = some (.int .i64 root))) (by kernel_rfl) ?_ (fun hHeld => ?_)
  · first | exact ⟨x0, x1, x2, y0, y1, y2⟩ | exact ⟨keepc HQ8.out hl6 x0, keepc HQ8.out hl6 x1, keepc HQ8.out hl6 x2, keepc HQ8.out hm6 y0, keepc HQ8.out hm6 y1, keepc HQ8.out hm6 y2⟩ | exact ⟨keepc HQ7.out hl6 x0, keepc HQ7.out hl6 x1, keepc HQ7.out hl6 x2, keepc HQ7.out hm6 y0, keepc HQ7.out hm6 y1, keepc HQ7.out hm6 y2⟩
  refine tL 0 (some 22) ?_
  refine tL 1 (some 23) ?_
  refine wpAnyH_ready (rs := [2]) (by kernel_rfl) (by simp) ?_
  refine AllReadyH.cons (o := _) rfl (fun K hK => ?_) AllReadyH.nil
  go_simp
  refine (c_toBdd (B := W.heap.size) vars root w6.drew HB6.out.size ((HN.out.below HB6.out).below (Below.refl _ w6).drew) hlen).mono ?_
  rintro e w7 ⟨h, rfl, hd, -, -, hq⟩
  have HD := Go.Lib.hid hd
  have HQ7 := Go.Lib.hid (show Below w6.heap.size w6 w7 from ⟨hq.os, hq.tape, hq.output, hq.size, hq.block⟩)
  clear hd hq
  (try go_wp2_with fail)
  (try clear hHeld)
  refine hK.out _ _ ?_ (fun hHeld => ?_)
  · first | exact ⟨x0, x1, x2, y0, y1, y2⟩ | exact ⟨keepc HQ8.out hl6 x0, keepc HQ8.out hl6 x1, keepc HQ8.out hl6 x2, keepc HQ8.out hm6 y0, keepc HQ8.out hm6 y1, keepc HQ8.out hm6 y2⟩ | exact ⟨keepc HQ7.out hl6 x0, keepc HQ7.out hl6 x1, keepc HQ7.out hl6 x2, keepc HQ7.out hm6 y0, keepc HQ7.out hm6 y1, keepc HQ7.out hm6 y2⟩
  clear hK K
  (try simp only [Act.put, List.setIfInBounds_toArray, List.set_cons_zero, List.set_cons_succ])
  refine wpAnyH_ready (rs := [3]) (by kernel_rfl) (by simp) ?_
  refine AllReadyH.cons (o := _) rfl (fun K hK => ?_) AllReadyH.nil
  go_simp
  refine (c_eqBdd (B := w7.heap.size) vars root w7 (Nat.le_refl _) ((HC6.out.below HQ7.out).mono HQ7.out.size) HD.out).mono ?_
  rintro e w8 ⟨rfl, hq⟩
  have HQ8 := Go.Lib.hid (HQ7.out.trans (hq.mono HQ7.out.size))
  clear hq
  (try go_wp2_with fail)
  (try clear hHeld)
  refine hK.out _ _ ?_ (fun hHeld => ?_)
  · first | exact ⟨x0, x1, x2, y0, y1, y2⟩ | exact ⟨keepc HQ8.out hl6 x0, keepc HQ8.out hl6 x1, keepc HQ8.out hl6 x2, keepc HQ8.out hm6 y0, keepc HQ8.out hm6 y1, keepc HQ8.out hm6 y2⟩ | exact ⟨keepc HQ7.out hl6 x0, keepc HQ7.out hl6 x1, keepc HQ7.out hl6 x2, keepc HQ7.out hm6 y0, keepc HQ7.out hm6 y1, keepc HQ7.out hm6 y2⟩
  clear hK K
  (try simp only [Act.put, List.setIfInBounds_toArray, List.set_cons_zero, List.set_cons_succ])
  refine tL 4 (some 26) ?_
  refine wpAnyH_done (by kernel_rfl) ?_ _
  clear hHeld
  go_wp2_with fail
  go_ret
  exact ⟨rfl, HB6.out.trans (HQ8.out.mono HB6.out.size)⟩
end Go.Proofs.Ytdmdjagnaakdbaa
