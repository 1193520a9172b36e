/-
  The law of BddIf.
-/
import Derived.Test.YtpehddfnlmkicaaDoorRows
import Derived.Test.YtpehddfnlmkicaaDoorPaA
import Derived.Test.YtpehddfnlmkicaaDoorG0
import Derived.Test.YtpehddfnlmkicaaDoorBdM
import Derived.Test.YtpehddfnlmkicaaDoorBdI
import Derived.Test.YtpehddfnlmkicaaDoorBdL
import Derived.Test.YtpehddfnlmkicaaDoorBdT
import Derived.Test.YtpehddfnlmkicaaDoorBdC
import Derived.Test.YtpehddfnlmkicaaDoorBdN
import Derived.Test.YtpehddfnlmkicaaDoorBdX
import Derived.Test.YtpehddfnlmkicaaDoorBdY
import Derived.Test.YtpehddfnlmkicaaDoorFoE
import Derived.Test.YtpehddfnlmkicaaDoorFoO
import Derived.Test.YtpehddfnlmkicaaDoorLawD0
import Derived.Test.YtpehddfnlmkicaaDoorLawDB
import Derived.WalkKit
import Derived.ProofKit
import Derived.OpenShut
import Derived.WalkSpells
import Derived.WalkLawsBesides
import Derived.Outline
import Derived.BigQuiet
import Derived.Handy
import Derived.LoopTactic
import Derived.Deep.Light
import Derived.Deep.RegionWith
import Derived.Deep.RegionHeld3
import Derived.Deep.DeepCutAuto
import Derived.Lib.Hide
import Derived.Maps.OwnRows
import Derived.Deep.Onto
import Derived.OneCell
import Derived.StillTailTactics
import Derived.Deep.AppendLies
import Derived.Deep.RegionLaw
namespace Go.Proofs.YtpehddfnlmkicaaDoor
open Go.ChangeShapes Go.WideShapes Go.ChangeAt Go.RowKit Go.Maps Go.ChangeMaps
set_option linter.unusedVariables false
set_option maxRecDepth 100000


set_option maxHeartbeats 16000000 in
theorem w_FnExactBddIf {V1 r1 : Int} {a1 : Option Addr} {len1 cap1 : Nat} {ns1 : List BN} {V2 r2 : Int} {a2 : Option Addr} {len2 cap2 : Nat} {ns2 : List BN} {V3 r3 : Int} {a3 : Option Addr} {len3 cap3 : Nat} {ns3 : List BN} (W : World) (hgl : Glob W) (h1 : BnsAt W.heap.size W a1 len1 cap1 ns1) (h2 : BnsAt W.heap.size W a2 len2 cap2 ns2) (h3 : BnsAt W.heap.size W a3 len3 cap3 ns3) :
    Calls Tryd.prog 8 #[.agg #[.int .i64 V1, .slice a1 len1 cap1, .int .i64 r1], .agg #[.int .i64 V2, .slice a2 len2 cap2, .int .i64 r2], .agg #[.int .i64 V3, .slice a3 len3 cap3, .int .i64 r3]] W fun e w' => e = .returned (.bool true) ∧ Below W.heap.size W w' := by
  have GL := Go.Lib.hid hgl
  have hg0 : 0 < W.heap.size := hgl.1
  clear hgl
  have HN1 := Go.Lib.hid h1
  have HN2 := Go.Lib.hid h2
  have HN3 := Go.Lib.hid h3
  clear h1 h2 h3
  go_enter Tryd.func8, Tryd.ntmps8
  go_upto_region 1 with fail
  refine code_gen (R := fun wb => wb.heap[W.heap.size]? = some (.cells #[.int .i64 V1, .slice a1 len1 cap1, .int .i64 r1] 32 (0, 0)) ∧ wb.heap[W.heap.size + 1]? = some (.cells #[.int .i64 V2, .slice a2 len2 cap2, .int .i64 r2] 32 (0, 0)) ∧ wb.heap[W.heap.size + 2]? = some (.cells #[.int .i64 V3, .slice a3 len3 cap3, .int .i64 r3] 32 (0, 0)) ∧ Below W.heap.size W wb) ⟨(al3 _ _ _ _).1, (al3 _ _ _ _).2.1, (al3 _ _ _ _).2.2, by go_grown⟩ ?_
  rintro w1 ⟨k1, k2, k3, hq⟩
  have lB1 : W.heap.size < w1.heap.size := (Array.getElem?_eq_some_iff.1 k1).1
  have HB1 := Go.Lib.hid k1
  have lB2 : W.heap.size + 1 < w1.heap.size := (Array.getElem?_eq_some_iff.1 k2).1
  have HB2 := Go.Lib.hid k2
  have lB3 : W.heap.size + 2 < w1.heap.size := (Array.getElem?_eq_some_iff.1 k3).1
  have HB3 := Go.Lib.hid k3
  have HB := Go.Lib.hid hq
  replace GL := Go.Lib.hid (GL.out.below hq)
  clear hq k1 k2 k3
  have cB1_0 := cell_of_block (i := 0) HB1.out (v := .int .i64 V1) rfl
  have cB1_1 := cell_of_block (i := 1) HB1.out (v := .slice a1 len1 cap1) rfl
  have cB1_2 := cell_of_block (i := 2) HB1.out (v := .int .i64 r1) rfl
  have cB2_0 := cell_of_block (i := 0) HB2.out (v := .int .i64 V2) rfl
  have cB2_1 := cell_of_block (i := 1) HB2.out (v := .slice a2 len2 cap2) rfl
  have cB2_2 := cell_of_block (i := 2) HB2.out (v := .int .i64 r2) rfl
  have cB3_0 := cell_of_block (i := 0) HB3.out (v := .int .i64 V3) rfl
  have cB3_1 := cell_of_block (i := 1) HB3.out (v := .slice a3 len3 cap3) rfl
  have cB3_2 := cell_of_block (i := 2) HB3.out (v := .int .i64 r3) rfl
  go_wp2_with fail
  refine (c_szBddL (B := W.heap.size) V1 r1 1048576 (by omega) (by omega) w1 HB.out.size (HN1.out.below HB.out)).mono ?_
  rintro e w2 ⟨q1, rfl, hr1, hr, hq⟩
  replace HB1 := Go.Lib.hid ((hq.block _ lB1).trans HB1.out)
  replace lB1 := Nat.lt_of_lt_of_le lB1 hq.size
  replace HB2 := Go.Lib.hid ((hq.block _ lB2).trans HB2.out)
  replace lB2 := Nat.lt_of_lt_of_le lB2 hq.size
  replace HB3 := Go.Lib.hid ((hq.block _ lB3).trans HB3.out)
  replace lB3 := Nat.lt_of_lt_of_le lB3 hq.size
  replace GL := Go.Lib.hid (GL.out.below hq)
  replace HB := Go.Lib.hid (HB.out.trans (hq.mono HB.out.size))
  clear cB1_0 cB1_1 cB1_2 cB2_0 cB2_1 cB2_2 cB3_0 cB3_1 cB3_2
  have HR1 := Go.Lib.hid hr
  have hq1 : q1 ≤ 1048576 := hr1
  clear hr hr1 hq
  by_cases hn1 : q1 < 0
  · go_wp2_with fail
    go_ret
    exact ⟨rfl, HB.out⟩
  have hlen1 : len1 ≤ 1048576 := by have := HR1.out (by omega); omega
  have cB1_0 := cell_of_block (i := 0) HB1.out (v := .int .i64 V1) rfl
  have cB1_1 := cell_of_block (i := 1) HB1.out (v := .slice a1 len1 cap1) rfl
  have cB1_2 := cell_of_block (i := 2) HB1.out (v := .int .i64 r1) rfl
  have cB2_0 := cell_of_block (i := 0) HB2.out (v := .int .i64 V2) rfl
  have cB2_1 := cell_of_block (i := 1) HB2.out (v := .slice a2 len2 cap2) rfl
  have cB2_2 := cell_of_block (i := 2) HB2.out (v := .int .i64 r2) rfl
  have cB3_0 := cell_of_block (i := 0) HB3.out (v := .int .i64 V3) rfl
  have cB3_1 := cell_of_block (i := 1) HB3.out (v := .slice a3 len3 cap3) rfl
  have cB3_2 := cell_of_block (i := 2) HB3.out (v := .int .i64 r3) rfl
  go_wp2_with fail
  refine (c_szBddL (B := W.heap.size) V2 r2 q1 (by omega) (by omega) w2 HB.out.size (HN2.out.below HB.out)).mono ?_
  rintro e w3 ⟨q2, rfl, hr1, hr, hq⟩
  replace HB1 := Go.Lib.hid ((hq.block _ lB1).trans HB1.out)
  replace lB1 := Nat.lt_of_lt_of_le lB1 hq.size
  replace HB2 := Go.Lib.hid ((hq.block _ lB2).trans HB2.out)
  replace lB2 := Nat.lt_of_lt_of_le lB2 hq.size
  replace HB3 := Go.Lib.hid ((hq.block _ lB3).trans HB3.out)
  replace lB3 := Nat.lt_of_lt_of_le lB3 hq.size
  replace GL := Go.Lib.hid (GL.out.below hq)
  replace HB := Go.Lib.hid (HB.out.trans (hq.mono HB.out.size))
  clear cB1_0 cB1_1 cB1_2 cB2_0 cB2_1 cB2_2 cB3_0 cB3_1 cB3_2
  have HR2 := Go.Lib.hid hr
  have hq2 : q2 ≤ q1 := hr1
  clear hr hr1 hq
  by_cases hn2 : q2 < 0
  · go_wp2_with fail
    go_ret
    exact ⟨rfl, HB.out⟩
  have hlen2 : len2 ≤ 1048576 := by have := HR2.out (by omega); omega
  have cB1_0 := cell_of_block (i := 0) HB1.out (v := .int .i64 V1) rfl
  have cB1_1 := cell_of_block (i := 1) HB1.out (v := .slice a1 len1 cap1) rfl
  have cB1_2 := cell_of_block (i := 2) HB1.out (v := .int .i64 r1) rfl
  have cB2_0 := cell_of_block (i := 0) HB2.out (v := .int .i64 V2) rfl
  have cB2_1 := cell_of_block (i := 1) HB2.out (v := .slice a2 len2 cap2) rfl
  have cB2_2 := cell_of_block (i := 2) HB2.out (v := .int .i64 r2) rfl
  have cB3_0 := cell_of_block (i := 0) HB3.out (v := .int .i64 V3) rfl
  have cB3_1 := cell_of_block (i := 1) HB3.out (v := .slice a3 len3 cap3) rfl
  have cB3_2 := cell_of_block (i := 2) HB3.out (v := .int .i64 r3) rfl
  go_wp2_with fail
  refine (c_szBddL (B := W.heap.size) V3 r3 q2 (by omega) (by omega) w3 HB.out.size (HN3.out.below HB.out)).mono ?_
  rintro e w4 ⟨q3, rfl, hr1, hr, hq⟩
  replace HB1 := Go.Lib.hid ((hq.block _ lB1).trans HB1.out)
  replace lB1 := Nat.lt_of_lt_of_le lB1 hq.size
  replace HB2 := Go.Lib.hid ((hq.block _ lB2).trans HB2.out)
  replace lB2 := Nat.lt_of_lt_of_le lB2 hq.size
  replace HB3 := Go.Lib.hid ((hq.block _ lB3).trans HB3.out)
  replace lB3 := Nat.lt_of_lt_of_le lB3 hq.size
  replace GL := Go.Lib.hid (GL.out.below hq)
  replace HB := Go.Lib.hid (HB.out.trans (hq.mono HB.out.size))
  clear cB1_0 cB1_1 cB1_2 cB2_0 cB2_1 cB2_2 cB3_0 cB3_1 cB3_2
  have HR3 := Go.Lib.hid hr
  have hq3 : q3 ≤ q2 := hr1
  clear hr hr1 hq
  by_cases hn3 : q3 < 0
  · go_wp2_with fail
    go_ret
    exact ⟨rfl, HB.out⟩
  have hlen3 : len3 ≤ 1048576 := by have := HR3.out (by omega); omega
  have cB1_0 := cell_of_block (i := 0) HB1.out (v := .int .i64 V1) rfl
  have cB1_1 := cell_of_block (i := 1) HB1.out (v := .slice a1 len1 cap1) rfl
  have cB1_2 := cell_of_block (i := 2) HB1.out (v := .int .i64 r1) rfl
  have cB2_0 := cell_of_block (i := 0) HB2.out (v := .int .i64 V2) rfl
  have cB2_1 := cell_of_block (i := 1) HB2.out (v := .slice a2 len2 cap2) rfl
  have cB2_2 := cell_of_block (i := 2) HB2.out (v := .int .i64 r2) rfl
  have cB3_0 := cell_of_block (i := 0) HB3.out (v := .int .i64 V3) rfl
  have cB3_1 := cell_of_block (i := 1) HB3.out (v := .slice a3 len3 cap3) rfl
  have cB3_2 := cell_of_block (i := 2) HB3.out (v := .int .i64 r3) rfl
  go_upto_region 11 with fail
  go_cut [8, 9] (fun s8 s9 wx => CutW (CondR (TriP V1 ns1 r1 V2 ns2 r2 V3 ns3 r3) V1 (fun c => if evF ns1 r1 c then evF ns2 r2 c else evF ns3 r3 c)) w4 s8 s9 wx)
  case first =>
    refine wp_region_held_drew (S := (fun w' => w'.cell? ⟨W.heap.size, 0, none⟩ = some (.int .i64 V1) ∧ w'.cell? ⟨W.heap.size, 1, none⟩ = some (.slice a1 len1 cap1) ∧ w'.cell? ⟨W.heap.size, 2, none⟩ = some (.int .i64 r1) ∧ w'.cell? ⟨W.heap.size + 1, 0, none⟩ = some (.int .i64 V2) ∧ w'.cell? ⟨W.heap.size + 1, 1, none⟩ = some (.slice a2 len2 cap2) ∧ w'.cell? ⟨W.heap.size + 1, 2, none⟩ = some (.int .i64 r2) ∧ w'.cell? ⟨W.heap.size + 2, 0, none⟩ = some (.int .i64 V3) ∧ w'.cell? ⟨W.heap.size + 2, 1, none⟩ = some (.slice a3 len3 cap3) ∧ w'.cell? ⟨W.heap.size + 2, 2, none⟩ = some (.int .i64 r3))) (by kernel_rfl) ?_ (fun hHeld => ?_)
    · exact keepb3 (by go_grown) lB1 cB1_0 cB1_1 cB1_2 lB2 cB2_0 cB2_1 cB2_2 lB3 cB3_0 cB3_1 cB3_2
    refine tL 0 (some 36) ?_
    refine tL 2 (some 38) ?_
    refine tL 4 (some 40) ?_
    refine wpAnyH_ready (rs := [1, 10]) (by kernel_rfl) (by simp) ?_
    refine AllReadyH.cons (o := _) rfl (fun K hK => ?_) ?_
    · go_simp
      refine (c_toBdd (B := W.heap.size) V1 r1 _ (Nat.le_trans HB.out.size (Below.size (show Below w4.heap.size w4 _ by go_grown))) ((HN1.out.below HB.out).below (Below.mono (show Below w4.heap.size w4 _ by go_grown) HB.out.size)) hlen1).mono ?_
      rintro e x1 ⟨g1, rfl, hc, -, -, hq⟩
      (try (with_reducible have hZ := ZB.below (ZB.newD w4) hq))
      have hb1 : Below w4.heap.size w4 x1 := bstp (by go_grown) hq
      have ht1 := hb1.size
      have C1_1 := Go.Lib.hid hc
      clear hc hq
      (try go_wp2_with fail)
      (try clear hHeld)
      refine hK.out _ _ ?_ (fun hHeld => ?_)
      · exact keepb3 (by go_grown) lB1 cB1_0 cB1_1 cB1_2 lB2 cB2_0 cB2_1 cB2_2 lB3 cB3_0 cB3_1 cB3_2
      clear hK K
      (try simp only [Act.put, List.setIfInBounds_toArray, List.set_cons_zero, List.set_cons_succ])
      refine wpAnyH_ready (rs := [3, 10]) (by kernel_rfl) (by simp) ?_
      refine AllReadyH.cons (o := _) rfl (fun K hK => ?_) ?_
      · go_simp
        refine (c_toBdd (B := W.heap.size) V2 r2 _ (Nat.le_trans HB.out.size (Below.size (show Below w4.heap.size w4 _ by go_grown))) ((HN2.out.below HB.out).below (Below.mono (show Below w4.heap.size w4 _ by go_grown) HB.out.size)) hlen2).mono ?_
        rintro e x2 ⟨g2, rfl, hc, -, -, hq⟩
        (try (with_reducible have hZ := ZB.below (ZB.new x1) hq))
        (try (with_reducible have hZ := ZB.below hZ hq))
        have hb2 : Below w4.heap.size w4 x2 := bstp (by go_grown) hq
        have ht2 := hb2.size
        have hp2 : Below x1.heap.size x1 x2 := bstp (by go_grown) hq
        have C1_2 := Go.Lib.hid ((C1_1.out.below hp2).mono hp2.size)
        have C2_2 := Go.Lib.hid hc
        clear hc hq
        (try go_wp2_with fail)
        (try clear hHeld)
        refine hK.out _ _ ?_ (fun hHeld => ?_)
        · exact keepb3 (by go_grown) lB1 cB1_0 cB1_1 cB1_2 lB2 cB2_0 cB2_1 cB2_2 lB3 cB3_0 cB3_1 cB3_2
        clear hK K
        (try simp only [Act.put, List.setIfInBounds_toArray, List.set_cons_zero, List.set_cons_succ])
        refine wpAnyH_ready (rs := [5, 10]) (by kernel_rfl) (by simp) ?_
        refine AllReadyH.cons (o := _) rfl (fun K hK => ?_) ?_
        · go_simp
          refine (c_toBdd (B := W.heap.size) V3 r3 _ (Nat.le_trans HB.out.size (Below.size (show Below w4.heap.size w4 _ by go_grown))) ((HN3.out.below HB.out).below (Below.mono (show Below w4.heap.size w4 _ by go_grown) HB.out.size)) hlen3).mono ?_
          rintro e x3 ⟨g3, rfl, hc, -, -, hq⟩
          (try (with_reducible have hZ := ZB.below (ZB.new x2) hq))
          (try (with_reducible have hZ := ZB.below hZ hq))
          have hb3 : Below w4.heap.size w4 x3 := bstp (by go_grown) hq
          have ht3 := hb3.size
          have hp3 : Below x2.heap.size x2 x3 := bstp (by go_grown) hq
          have C1_3 := Go.Lib.hid ((C1_2.out.below hp3).mono hp3.size)
          have C2_3 := Go.Lib.hid ((C2_2.out.below hp3).mono hp3.size)
          have C3_3 := Go.Lib.hid hc
          clear hc hq
          (try go_wp2_with fail)
          (try clear hHeld)
          refine hK.out _ _ ?_ (fun hHeld => ?_)
          · exact keepb3 (by go_grown) lB1 cB1_0 cB1_1 cB1_2 lB2 cB2_0 cB2_1 cB2_2 lB3 cB3_0 cB3_1 cB3_2
          clear hK K
          (try simp only [Act.put, List.setIfInBounds_toArray, List.set_cons_zero, List.set_cons_succ])
          refine wpAnyH_ready (rs := [6, 10]) (by kernel_rfl) (by simp) ?_
          refine AllReadyH.cons (o := _) rfl (fun K hK => ?_) ?_
          · go_simp
            refine (c_BddIfS (B := x3.heap.size) V1 r1 V2 r2 V3 r3 _ (Below.size (show Below x3.heap.size x3 _ by go_grown)) (C1_3.out.below (by go_grown)) (C2_3.out.below (by go_grown)) (C3_3.out.below (by go_grown))).mono ?_
            rintro e xs ⟨vw, V, R, q, ms, rfl, how, hcr, hq⟩
            obtain ⟨aw, cw, rfl, -⟩ := OwnN.form how
            (try (with_reducible have hZ' := And.intro (ZB.new x3).lt (ZB.below (ZB.new x3) hq)))
            (try (with_reducible have hZ' := And.intro hZ.lt (ZB.below hZ hq)))
            have hbs : Below w4.heap.size w4 xs := bstp (by go_grown) hq
            have hts := hbs.size
            have hbase := And.intro (Below.size (show Below w4.heap.size w4 _ by first | exact hb3 | go_grown)) how
            clear hq
            (try have y0 := cell_of_block (i := 0) hZ'.2.blk (v := .int .i64 0) rfl)
            (try have y1 := cell_of_block (i := 1) hZ'.2.blk (v := .slice none 0 0) rfl)
            (try have y2 := cell_of_block (i := 2) hZ'.2.blk (v := .int .i64 0) rfl)
            (try have y3 := free_of_block (i := 0) hZ'.2.blk)
            (try have y4 := free_of_block (i := 1) hZ'.2.blk)
            (try have y5 := free_of_block (i := 2) hZ'.2.blk)
            (try go_wp2_with fail)
            (try clear hHeld)
            refine hK.out _ _ ?_ (fun hHeld => ?_)
            · exact keepb3 (by go_grown) lB1 cB1_0 cB1_1 cB1_2 lB2 cB2_0 cB2_1 cB2_2 lB3 cB3_0 cB3_1 cB3_2
            clear hK K
            (try simp only [Act.put, List.setIfInBounds_toArray, List.set_cons_zero, List.set_cons_succ])
            refine tL 7 (some 35) ?_
            refine tL 8 (some 43) ?_
            refine tL 9 (some 44) ?_
            refine wpAnyH_ready (rs := [10]) (by kernel_rfl) (by simp) ?_
            refine AllReadyH.cons (o := _) rfl (fun K hK => ?_) AllReadyH.nil
            go_simp
            (try clear hHeld)
            refine hK.out _ _ ?_ (fun hHeld => ?_)
            · exact keepb3 (by go_grown) lB1 cB1_0 cB1_1 cB1_2 lB2 cB2_0 cB2_1 cB2_2 lB3 cB3_0 cB3_1 cB3_2
            clear hK K
            (try simp only [Act.put, List.setIfInBounds_toArray, List.set_cons_zero, List.set_cons_succ])
            refine wpAnyH_ready (rs := [11]) (by kernel_rfl) (by simp) ?_
            refine AllReadyH.cons (o := _) rfl (fun K hK => ?_) AllReadyH.nil
            go_simp
            (try clear hHeld)
            refine hK.out _ _ ?_ (fun hHeld => ?_)
            · exact keepb3 (by go_grown) lB1 cB1_0 cB1_1 cB1_2 lB2 cB2_0 cB2_1 cB2_2 lB3 cB3_0 cB3_1 cB3_2
            clear hK K
            (try simp only [Act.put, List.setIfInBounds_toArray, List.set_cons_zero, List.set_cons_succ])
            refine tL 12 (some 9) ?_
            refine wpAnyH_done (by kernel_rfl) ?_ _
            go_wp2_with fail
            go_meet
            clear hHeld
            first | (with_reducible exact cut_old hZ'.2 (by omega) hZ'.1 how hcr hbs) | (with_reducible exact cut_new ht3 how hcr hbs)
          refine AllReadyH.cons (o := _) rfl (fun K hK => ?_) ?_
          · go_simp
            (try clear hHeld)
            refine hK.out _ _ ?_ (fun hHeld => ?_)
            · exact keepb3 (by go_grown) lB1 cB1_0 cB1_1 cB1_2 lB2 cB2_0 cB2_1 cB2_2 lB3 cB3_0 cB3_1 cB3_2
            clear hK K
            (try simp only [Act.put, List.setIfInBounds_toArray, List.set_cons_zero, List.set_cons_succ])
            refine wpAnyH_ready (rs := [6]) (by kernel_rfl) (by simp) ?_
            refine AllReadyH.cons (o := _) rfl (fun K hK => ?_) AllReadyH.nil
            go_simp
            refine (c_BddIfS (B := x3.heap.size) V1 r1 V2 r2 V3 r3 _ (Below.size (show Below x3.heap.size x3 _ by go_grown)) (C1_3.out.below (by go_grown)) (C2_3.out.below (by go_grown)) (C3_3.out.below (by go_grown))).mono ?_
            rintro e xs ⟨vw, V, R, q, ms, rfl, how, hcr, hq⟩
            obtain ⟨aw, cw, rfl, -⟩ := OwnN.form how
            (try (with_reducible have hZ' := And.intro (ZB.new x3).lt (ZB.below (ZB.new x3) hq)))
            (try (with_reducible have hZ' := And.intro hZ.lt (ZB.below hZ hq)))
            have hbs : Below w4.heap.size w4 xs := bstp (by go_grown) hq
            have hts := hbs.size
            have hbase := And.intro (Below.size (show Below w4.heap.size w4 _ by first | exact hb3 | go_grown)) how
            clear hq
            (try have y0 := cell_of_block (i := 0) hZ'.2.blk (v := .int .i64 0) rfl)
            (try have y1 := cell_of_block (i := 1) hZ'.2.blk (v := .slice none 0 0) rfl)
            (try have y2 := cell_of_block (i := 2) hZ'.2.blk (v := .int .i64 0) rfl)
            (try have y3 := free_of_block (i := 0) hZ'.2.blk)
            (try have y4 := free_of_block (i := 1) hZ'.2.blk)
            (try have y5 := free_of_block (i := 2) hZ'.2.blk)
            (try go_wp2_with fail)
            (try clear hHeld)
            refine hK.out _ _ ?_ (fun hHeld => ?_)
            · exact keepb3 (by go_grown) lB1 cB1_0 cB1_1 cB1_2 lB2 cB2_0 cB2_1 cB2_2 lB3 cB3_0 cB3_1 cB3_2
            clear hK K
            (try simp only [Act.put, List.setIfInBounds_toArray, List.set_cons_zero, List.set_cons_succ])
            refine tL 7 (some 35) ?_
            refine tL 8 (some 43) ?_
            refine tL 9 (some 44) ?_
            refine wpAnyH_ready (rs := [11]) (by kernel_rfl) (by simp) ?_
            refine AllReadyH.cons (o := _) rfl (fun K hK => ?_) AllReadyH.nil
            go_simp
            (try clear hHeld)
            refine hK.out _ _ ?_ (fun hHeld => ?_)
            · exact keepb3 (by go_grown) lB1 cB1_0 cB1_1 cB1_2 lB2 cB2_0 cB2_1 cB2_2 lB3 cB3_0 cB3_1 cB3_2
            clear hK K
            (try simp only [Act.put, List.setIfInBounds_toArray, List.set_cons_zero, List.set_cons_succ])
            refine tL 12 (some 9) ?_
            refine wpAnyH_done (by kernel_rfl) ?_ _
            go_wp2_with fail
            go_meet
            clear hHeld
            first | (with_reducible exact cut_old hZ'.2 (by omega) hZ'.1 how hcr hbs) | (with_reducible exact cut_new ht3 how hcr hbs)
          exact AllReadyH.nil
        refine AllReadyH.cons (o := _) rfl (fun K hK => ?_) ?_
        · go_simp
          (try clear hHeld)
          refine hK.out _ _ ?_ (fun hHeld => ?_)
          · exact keepb3 (by go_grown) lB1 cB1_0 cB1_1 cB1_2 lB2 cB2_0 cB2_1 cB2_2 lB3 cB3_0 cB3_1 cB3_2
          clear hK K
          (try simp only [Act.put, List.setIfInBounds_toArray, List.set_cons_zero, List.set_cons_succ])
          refine wpAnyH_ready (rs := [5]) (by kernel_rfl) (by simp) ?_
          refine AllReadyH.cons (o := _) rfl (fun K hK => ?_) AllReadyH.nil
          go_simp
          refine (c_toBdd (B := W.heap.size) V3 r3 _ (Nat.le_trans HB.out.size (Below.size (show Below w4.heap.size w4 _ by go_grown))) ((HN3.out.below HB.out).below (Below.mono (show Below w4.heap.size w4 _ by go_grown) HB.out.size)) hlen3).mono ?_
          rintro e x3 ⟨g3, rfl, hc, -, -, hq⟩
          (try (with_reducible have hZ := ZB.below (ZB.new x2) hq))
          (try (with_reducible have hZ := ZB.below hZ hq))
          have hb3 : Below w4.heap.size w4 x3 := bstp (by go_grown) hq
          have ht3 := hb3.size
          have hp3 : Below x2.heap.size x2 x3 := bstp (by go_grown) hq
          have C1_3 := Go.Lib.hid ((C1_2.out.below hp3).mono hp3.size)
          have C2_3 := Go.Lib.hid ((C2_2.out.below hp3).mono hp3.size)
          have C3_3 := Go.Lib.hid hc
          clear hc hq
          (try go_wp2_with fail)
          (try clear hHeld)
          refine hK.out _ _ ?_ (fun hHeld => ?_)
          · exact keepb3 (by go_grown) lB1 cB1_0 cB1_1 cB1_2 lB2 cB2_0 cB2_1 cB2_2 lB3 cB3_0 cB3_1 cB3_2
          clear hK K
          (try simp only [Act.put, List.setIfInBounds_toArray, List.set_cons_zero, List.set_cons_succ])
          refine wpAnyH_ready (rs := [6]) (by kernel_rfl) (by simp) ?_
          refine AllReadyH.cons (o := _) rfl (fun K hK => ?_) AllReadyH.nil
          go_simp
          refine (c_BddIfS (B := x3.heap.size) V1 r1 V2 r2 V3 r3 _ (Below.size (show Below x3.heap.size x3 _ by go_grown)) (C1_3.out.below (by go_grown)) (C2_3.out.below (by go_grown)) (C3_3.out.below (by go_grown))).mono ?_
          rintro e xs ⟨vw, V, R, q, ms, rfl, how, hcr, hq⟩
          obtain ⟨aw, cw, rfl, -⟩ := OwnN.form how
          (try (with_reducible have hZ' := And.intro (ZB.new x3).lt (ZB.below (ZB.new x3) hq)))
          (try (with_reducible have hZ' := And.intro hZ.lt (ZB.below hZ hq)))
          have hbs : Below w4.heap.size w4 xs := bstp (by go_grown) hq
          have hts := hbs.size
          have hbase := And.intro (Below.size (show Below w4.heap.size w4 _ by first | exact hb3 | go_grown)) how
          clear hq
          (try have y0 := cell_of_block (i := 0) hZ'.2.blk (v := .int .i64 0) rfl)
          (try have y1 := cell_of_block (i := 1) hZ'.2.blk (v := .slice none 0 0) rfl)
          (try have y2 := cell_of_block (i := 2) hZ'.2.blk (v := .int .i64 0) rfl)
          (try have y3 := free_of_block (i := 0) hZ'.2.blk)
          (try have y4 := free_of_block (i := 1) hZ'.2.blk)
          (try have y5 := free_of_block (i := 2) hZ'.2.blk)
          (try go_wp2_with fail)
          (try clear hHeld)
          refine hK.out _ _ ?_ (fun hHeld => ?_)
          · exact keepb3 (by go_grown) lB1 cB1_0 cB1_1 cB1_2 lB2 cB2_0 cB2_1 cB2_2 lB3 cB3_0 cB3_1 cB3_2
          clear hK K
          (try simp only [Act.put, List.setIfInBounds_toArray, List.set_cons_zero, List.set_cons_succ])
          refine tL 7 (some 35) ?_
          refine tL 8 (some 43) ?_
          refine tL 9 (some 44) ?_
          refine wpAnyH_ready (rs := [11]) (by kernel_rfl) (by simp) ?_
          refine AllReadyH.cons (o := _) rfl (fun K hK => ?_) AllReadyH.nil
          go_simp
          (try clear hHeld)
          refine hK.out _ _ ?_ (fun hHeld => ?_)
          · exact keepb3 (by go_grown) lB1 cB1_0 cB1_1 cB1_2 lB2 cB2_0 cB2_1 cB2_2 lB3 cB3_0 cB3_1 cB3_2
          clear hK K
          (try simp only [Act.put, List.setIfInBounds_toArray, List.set_cons_zero, List.set_cons_succ])
          refine tL 12 (some 9) ?_
          refine wpAnyH_done (by kernel_rfl) ?_ _
          go_wp2_with fail
          go_meet
          clear hHeld
          first | (with_reducible exact cut_old hZ'.2 (by omega) hZ'.1 how hcr hbs) | (with_reducible exact cut_new ht3 how hcr hbs)
        exact AllReadyH.nil
      refine AllReadyH.cons (o := _) rfl (fun K hK => ?_) ?_
      · go_simp
        (try clear hHeld)
        refine hK.out _ _ ?_ (fun hHeld => ?_)
        · exact keepb3 (by go_grown) lB1 cB1_0 cB1_1 cB1_2 lB2 cB2_0 cB2_1 cB2_2 lB3 cB3_0 cB3_1 cB3_2
        clear hK K
        (try simp only [Act.put, List.setIfInBounds_toArray, List.set_cons_zero, List.set_cons_succ])
        refine wpAnyH_ready (rs := [3]) (by kernel_rfl) (by simp) ?_
        refine AllReadyH.cons (o := _) rfl (fun K hK => ?_) AllReadyH.nil
        go_simp
        refine (c_toBdd (B := W.heap.size) V2 r2 _ (Nat.le_trans HB.out.size (Below.size (show Below w4.heap.size w4 _ by go_grown))) ((HN2.out.below HB.out).below (Below.mono (show Below w4.heap.size w4 _ by go_grown) HB.out.size)) hlen2).mono ?_
        rintro e x2 ⟨g2, rfl, hc, -, -, hq⟩
        (try (with_reducible have hZ := ZB.below (ZB.new x1) hq))
        (try (with_reducible have hZ := ZB.below hZ hq))
        have hb2 : Below w4.heap.size w4 x2 := bstp (by go_grown) hq
        have ht2 := hb2.size
        have hp2 : Below x1.heap.size x1 x2 := bstp (by go_grown) hq
        have C1_2 := Go.Lib.hid ((C1_1.out.below hp2).mono hp2.size)
        have C2_2 := Go.Lib.hid hc
        clear hc hq
        (try go_wp2_with fail)
        (try clear hHeld)
        refine hK.out _ _ ?_ (fun hHeld => ?_)
        · exact keepb3 (by go_grown) lB1 cB1_0 cB1_1 cB1_2 lB2 cB2_0 cB2_1 cB2_2 lB3 cB3_0 cB3_1 cB3_2
        clear hK K
        (try simp only [Act.put, List.setIfInBounds_toArray, List.set_cons_zero, List.set_cons_succ])
        refine wpAnyH_ready (rs := [5]) (by kernel_rfl) (by simp) ?_
        refine AllReadyH.cons (o := _) rfl (fun K hK => ?_) AllReadyH.nil
        go_simp
        refine (c_toBdd (B := W.heap.size) V3 r3 _ (Nat.le_trans HB.out.size (Below.size (show Below w4.heap.size w4 _ by go_grown))) ((HN3.out.below HB.out).below (Below.mono (show Below w4.heap.size w4 _ by go_grown) HB.out.size)) hlen3).mono ?_
        rintro e x3 ⟨g3, rfl, hc, -, -, hq⟩
        (try (with_reducible have hZ := ZB.below (ZB.new x2) hq))
        (try (with_reducible have hZ := ZB.below hZ hq))
        have hb3 : Below w4.heap.size w4 x3 := bstp (by go_grown) hq
        have ht3 := hb3.size
        have hp3 : Below x2.heap.size x2 x3 := bstp (by go_grown) hq
        have C1_3 := Go.Lib.hid ((C1_2.out.below hp3).mono hp3.size)
        have C2_3 := Go.Lib.hid ((C2_2.out.below hp3).mono hp3.size)
        have C3_3 := Go.Lib.hid hc
        clear hc hq
        (try go_wp2_with fail)
        (try clear hHeld)
        refine hK.out _ _ ?_ (fun hHeld => ?_)
        · exact keepb3 (by go_grown) lB1 cB1_0 cB1_1 cB1_2 lB2 cB2_0 cB2_1 cB2_2 lB3 cB3_0 cB3_1 cB3_2
        clear hK K
        (try simp only [Act.put, List.setIfInBounds_toArray, List.set_cons_zero, List.set_cons_succ])
        refine wpAnyH_ready (rs := [6]) (by kernel_rfl) (by simp) ?_
        refine AllReadyH.cons (o := _) rfl (fun K hK => ?_) AllReadyH.nil
        go_simp
        refine (c_BddIfS (B := x3.heap.size) V1 r1 V2 r2 V3 r3 _ (Below.size (show Below x3.heap.size x3 _ by go_grown)) (C1_3.out.below (by go_grown)) (C2_3.out.below (by go_grown)) (C3_3.out.below (by go_grown))).mono ?_
        rintro e xs ⟨vw, V, R, q, ms, rfl, how, hcr, hq⟩
        obtain ⟨aw, cw, rfl, -⟩ := OwnN.form how
        (try (with_reducible have hZ' := And.intro (ZB.new x3).lt (ZB.below (ZB.new x3) hq)))
        (try (with_reducible have hZ' := And.intro hZ.lt (ZB.below hZ hq)))
        have hbs : Below w4.heap.size w4 xs := bstp (by go_grown) hq
        have hts := hbs.size
        have hbase := And.intro (Below.size (show Below w4.heap.size w4 _ by first | exact hb3 | go_grown)) how
        clear hq
        (try have y0 := cell_of_block (i := 0) hZ'.2.blk (v := .int .i64 0) rfl)
        (try have y1 := cell_of_block (i := 1) hZ'.2.blk (v := .slice none 0 0) rfl)
        (try have y2 := cell_of_block (i := 2) hZ'.2.blk (v := .int .i64 0) rfl)
        (try have y3 := free_of_block (i := 0) hZ'.2.blk)
        (try have y4 := free_of_block (i := 1) hZ'.2.blk)
        (try have y5 := free_of_block (i := 2) hZ'.2.blk)
        (try go_wp2_with fail)
        (try clear hHeld)
        refine hK.out _ _ ?_ (fun hHeld => ?_)
        · exact keepb3 (by go_grown) lB1 cB1_0 cB1_1 cB1_2 lB2 cB2_0 cB2_1 cB2_2 lB3 cB3_0 cB3_1 cB3_2
        clear hK K
        (try simp only [Act.put, List.setIfInBounds_toArray, List.set_cons_zero, List.set_cons_succ])
        refine tL 7 (some 35) ?_
        refine tL 8 (some 43) ?_
        refine tL 9 (some 44) ?_
        refine wpAnyH_ready (rs := [11]) (by kernel_rfl) (by simp) ?_
        refine AllReadyH.cons (o := _) rfl (fun K hK => ?_) AllReadyH.nil
        go_simp
        (try clear hHeld)
        refine hK.out _ _ ?_ (fun hHeld => ?_)
        · exact keepb3 (by go_grown) lB1 cB1_0 cB1_1 cB1_2 lB2 cB2_0 cB2_1 cB2_2 lB3 cB3_0 cB3_1 cB3_2
        clear hK K
        (try simp only [Act.put, List.setIfInBounds_toArray, List.set_cons_zero, List.set_cons_succ])
        refine tL 12 (some 9) ?_
        refine wpAnyH_done (by kernel_rfl) ?_ _
        go_wp2_with fail
        go_meet
        clear hHeld
        first | (with_reducible exact cut_old hZ'.2 (by omega) hZ'.1 how hcr hbs) | (with_reducible exact cut_new ht3 how hcr hbs)
      exact AllReadyH.nil
    refine AllReadyH.cons (o := _) rfl (fun K hK => ?_) ?_
    · go_simp
      (try clear hHeld)
      refine hK.out _ _ ?_ (fun hHeld => ?_)
      · exact keepb3 (by go_grown) lB1 cB1_0 cB1_1 cB1_2 lB2 cB2_0 cB2_1 cB2_2 lB3 cB3_0 cB3_1 cB3_2
      clear hK K
      (try simp only [Act.put, List.setIfInBounds_toArray, List.set_cons_zero, List.set_cons_succ])
      refine wpAnyH_ready (rs := [1]) (by kernel_rfl) (by simp) ?_
      refine AllReadyH.cons (o := _) rfl (fun K hK => ?_) AllReadyH.nil
      go_simp
      refine (c_toBdd (B := W.heap.size) V1 r1 _ (Nat.le_trans HB.out.size (Below.size (show Below w4.heap.size w4 _ by go_grown))) ((HN1.out.below HB.out).below (Below.mono (show Below w4.heap.size w4 _ by go_grown) HB.out.size)) hlen1).mono ?_
      rintro e x1 ⟨g1, rfl, hc, -, -, hq⟩
      (try (with_reducible have hZ := ZB.below (ZB.newD w4) hq))
      have hb1 : Below w4.heap.size w4 x1 := bstp (by go_grown) hq
      have ht1 := hb1.size
      have C1_1 := Go.Lib.hid hc
      clear hc hq
      (try go_wp2_with fail)
      (try clear hHeld)
      refine hK.out _ _ ?_ (fun hHeld => ?_)
      · exact keepb3 (by go_grown) lB1 cB1_0 cB1_1 cB1_2 lB2 cB2_0 cB2_1 cB2_2 lB3 cB3_0 cB3_1 cB3_2
      clear hK K
      (try simp only [Act.put, List.setIfInBounds_toArray, List.set_cons_zero, List.set_cons_succ])
      refine wpAnyH_ready (rs := [3]) (by kernel_rfl) (by simp) ?_
      refine AllReadyH.cons (o := _) rfl (fun K hK => ?_) AllReadyH.nil
      go_simp
      refine (c_toBdd (B := W.heap.size) V2 r2 _ (Nat.le_trans HB.out.size (Below.size (show Below w4.heap.size w4 _ by go_grown))) ((HN2.out.below HB.out).below (Below.mono (show Below w4.heap.size w4 _ by go_grown) HB.out.size)) hlen2).mono ?_
      rintro e x2 ⟨g2, rfl, hc, -, -, hq⟩
      (try (with_reducible have hZ := ZB.below (ZB.new x1) hq))
      (try (with_reducible have hZ := ZB.below hZ hq))
      have hb2 : Below w4.heap.size w4 x2 := bstp (by go_grown) hq
      have ht2 := hb2.size
      have hp2 : Below x1.heap.size x1 x2 := bstp (by go_grown) hq
      have C1_2 := Go.Lib.hid ((C1_1.out.below hp2).mono hp2.size)
      have C2_2 := Go.Lib.hid hc
      clear hc hq
      (try go_wp2_with fail)
      (try clear hHeld)
      refine hK.out _ _ ?_ (fun hHeld => ?_)
      · exact keepb3 (by go_grown) lB1 cB1_0 cB1_1 cB1_2 lB2 cB2_0 cB2_1 cB2_2 lB3 cB3_0 cB3_1 cB3_2
      clear hK K
      (try simp only [Act.put, List.setIfInBounds_toArray, List.set_cons_zero, List.set_cons_succ])
      refine wpAnyH_ready (rs := [5]) (by kernel_rfl) (by simp) ?_
      refine AllReadyH.cons (o := _) rfl (fun K hK => ?_) AllReadyH.nil
      go_simp
      refine (c_toBdd (B := W.heap.size) V3 r3 _ (Nat.le_trans HB.out.size (Below.size (show Below w4.heap.size w4 _ by go_grown))) ((HN3.out.below HB.out).below (Below.mono (show Below w4.heap.size w4 _ by go_grown) HB.out.size)) hlen3).mono ?_
      rintro e x3 ⟨g3, rfl, hc, -, -, hq⟩
      (try (with_reducible have hZ := ZB.below (ZB.new x2) hq))
      (try (with_reducible have hZ := ZB.below hZ hq))
      have hb3 : Below w4.heap.size w4 x3 := bstp (by go_grown) hq
      have ht3 := hb3.size
      have hp3 : Below x2.heap.size x2 x3 := bstp (by go_grown) hq
      have C1_3 := Go.Lib.hid ((C1_2.out.below hp3).mono hp3.size)
      have C2_3 := Go.Lib.hid ((C2_2.out.below hp3).mono hp3.size)
      have C3_3 := Go.Lib.hid hc
      clear hc hq
      (try go_wp2_with fail)
      (try clear hHeld)
      refine hK.out _ _ ?_ (fun hHeld => ?_)
      · exact keepb3 (by go_grown) lB1 cB1_0 cB1_1 cB1_2 lB2 cB2_0 cB2_1 cB2_2 lB3 cB3_0 cB3_1 cB3_2
      clear hK K
      (try simp only [Act.put, List.setIfInBounds_toArray, List.set_cons_zero, List.set_cons_succ])
      refine wpAnyH_ready (rs := [6]) (by kernel_rfl) (by simp) ?_
      refine AllReadyH.cons (o := _) rfl (fun K hK => ?_) AllReadyH.nil
      go_simp
      refine (c_BddIfS (B := x3.heap.size) V1 r1 V2 r2 V3 r3 _ (Below.size (show Below x3.heap.size x3 _ by go_grown)) (C1_3.out.below (by go_grown)) (C2_3.out.below (by go_grown)) (C3_3.out.below (by go_grown))).mono ?_
      rintro e xs ⟨vw, V, R, q, ms, rfl, how, hcr, hq⟩
      obtain ⟨aw, cw, rfl, -⟩ := OwnN.form how
      (try (with_reducible have hZ' := And.intro (ZB.new x3).lt (ZB.below (ZB.new x3) hq)))
      (try (with_reducible have hZ' := And.intro hZ.lt (ZB.below hZ hq)))
      have hbs : Below w4.heap.size w4 xs := bstp (by go_grown) hq
      have hts := hbs.size
      have hbase := And.intro (Below.size (show Below w4.heap.size w4 _ by first | exact hb3 | go_grown)) how
      clear hq
      (try have y0 := cell_of_block (i := 0) hZ'.2.blk (v := .int .i64 0) rfl)
      (try have y1 := cell_of_block (i := 1) hZ'.2.blk (v := .slice none 0 0) rfl)
      (try have y2 := cell_of_block (i := 2) hZ'.2.blk (v := .int .i64 0) rfl)
      (try have y3 := free_of_block (i := 0) hZ'.2.blk)
      (try have y4 := free_of_block (i := 1) hZ'.2.blk)
      (try have y5 := free_of_block (i := 2) hZ'.2.blk)
      (try go_wp2_with fail)
      (try clear hHeld)
      refine hK.out _ _ ?_ (fun hHeld => ?_)
      · exact keepb3 (by go_grown) lB1 cB1_0 cB1_1 cB1_2 lB2 cB2_0 cB2_1 cB2_2 lB3 cB3_0 cB3_1 cB3_2
      clear hK K
      (try simp only [Act.put, List.setIfInBounds_toArray, List.set_cons_zero, List.set_cons_succ])
      refine tL 7 (some 35) ?_
      refine tL 8 (some 43) ?_
      refine tL 9 (some 44) ?_
      refine wpAnyH_ready (rs := [11]) (by kernel_rfl) (by simp) ?_
      refine AllReadyH.cons (o := _) rfl (fun K hK => ?_) AllReadyH.nil
      go_simp
      (try clear hHeld)
      refine hK.out _ _ ?_ (fun hHeld => ?_)
      · exact keepb3 (by go_grown) lB1 cB1_0 cB1_1 cB1_2 lB2 cB2_0 cB2_1 cB2_2 lB3 cB3_0 cB3_1 cB3_2
      clear hK K
      (try simp only [Act.put, List.setIfInBounds_toArray, List.set_cons_zero, List.set_cons_succ])
      refine tL 12 (some 9) ?_
      refine wpAnyH_done (by kernel_rfl) ?_ _
      go_wp2_with fail
      go_meet
      clear hHeld
      first | (with_reducible exact cut_old hZ'.2 (by omega) hZ'.1 how hcr hbs) | (with_reducible exact cut_new ht3 how hcr hbs)
    exact AllReadyH.nil
  case rest =>
  obtain ⟨wd, rfl⟩ : ∃ x, x = wc := ⟨_, rfl⟩
  obtain ⟨gw, V, R, q, ms, aw, cw, rfl, rfl, hgw, kk, how, hcr, hq⟩ := hcut
  replace HB1 := Go.Lib.hid ((hq.block _ lB1).trans HB1.out)
  replace lB1 := Nat.lt_of_lt_of_le lB1 hq.size
  replace HB2 := Go.Lib.hid ((hq.block _ lB2).trans HB2.out)
  replace lB2 := Nat.lt_of_lt_of_le lB2 hq.size
  replace HB3 := Go.Lib.hid ((hq.block _ lB3).trans HB3.out)
  replace lB3 := Nat.lt_of_lt_of_le lB3 hq.size
  replace GL := Go.Lib.hid (GL.out.below hq)
  replace HB := Go.Lib.hid (HB.out.trans (hq.mono HB.out.size))
  clear cB1_0 cB1_1 cB1_2 cB2_0 cB2_1 cB2_2 cB3_0 cB3_1 cB3_2
  have HOW := Go.Lib.hid how
  have HCR := Go.Lib.hid hcr
  have HVW := Go.Lib.hid (show ∀ y, Value.ownBlock (.slice aw ms.length cw) = some y → y < wd.heap.size from fun y hy => (how.1.lt y hy).2)
  have hlw : ms.length ≤ 1048576 := by have := hcr.len; omega
  have lgw : gw < wd.heap.size := (Array.getElem?_eq_some_iff.1 kk).1
  have lgwd := lgw
  have Hgw := Go.Lib.hid kk
  have hWd := HB.out.size
  have hBd1 := lB1
  have hBd2 := lB2
  have hBd3 := lB3
  clear how hcr hq kk
  have cB1_0 := cell_of_block (i := 0) HB1.out (v := .int .i64 V1) rfl
  have cB1_1 := cell_of_block (i := 1) HB1.out (v := .slice a1 len1 cap1) rfl
  have cB1_2 := cell_of_block (i := 2) HB1.out (v := .int .i64 r1) rfl
  have cB2_0 := cell_of_block (i := 0) HB2.out (v := .int .i64 V2) rfl
  have cB2_1 := cell_of_block (i := 1) HB2.out (v := .slice a2 len2 cap2) rfl
  have cB2_2 := cell_of_block (i := 2) HB2.out (v := .int .i64 r2) rfl
  have cB3_0 := cell_of_block (i := 0) HB3.out (v := .int .i64 V3) rfl
  have cB3_1 := cell_of_block (i := 1) HB3.out (v := .slice a3 len3 cap3) rfl
  have cB3_2 := cell_of_block (i := 2) HB3.out (v := .int .i64 r3) rfl
  have cgw_0 := cell_of_block (i := 0) Hgw.out (v := .int .i64 V) rfl
  have cgw_1 := cell_of_block (i := 1) Hgw.out (v := .slice aw ms.length cw) rfl
  have cgw_2 := cell_of_block (i := 2) Hgw.out (v := .int .i64 R) rfl
  go_wp2_with fail
  refine (c_toBdd (B := W.heap.size) V1 r1 wd HB.out.size (HN1.out.below HB.out) hlen1).mono ?_
  rintro e w11 ⟨g1, rfl, hc, hrm, hg, hq⟩
  replace HB1 := Go.Lib.hid ((hq.block _ lB1).trans HB1.out)
  replace lB1 := Nat.lt_of_lt_of_le lB1 hq.size
  replace HB2 := Go.Lib.hid ((hq.block _ lB2).trans HB2.out)
  replace lB2 := Nat.lt_of_lt_of_le lB2 hq.size
  replace HB3 := Go.Lib.hid ((hq.block _ lB3).trans HB3.out)
  replace lB3 := Nat.lt_of_lt_of_le lB3 hq.size
  replace Hgw := Go.Lib.hid ((hq.block _ lgw).trans Hgw.out)
  replace lgw := Nat.lt_of_lt_of_le lgw hq.size
  replace GL := Go.Lib.hid (GL.out.below hq)
  replace HOW := Go.Lib.hid (HOW.out.below hq)
  replace HB := Go.Lib.hid (HB.out.trans (hq.mono HB.out.size))
  clear cB1_0 cB1_1 cB1_2 cB2_0 cB2_1 cB2_2 cB3_0 cB3_1 cB3_2 cgw_0 cgw_1 cgw_2
  have HC1 := Go.Lib.hid hc
  have HRM1 := Go.Lib.hid hrm
  have hwg1 : wd.heap.size ≤ g1 := hg
  have hgl1 : g1 < w11.heap.size := hrm.1
  clear hc hrm hg hq
  have cB1_0 := cell_of_block (i := 0) HB1.out (v := .int .i64 V1) rfl
  have cB1_1 := cell_of_block (i := 1) HB1.out (v := .slice a1 len1 cap1) rfl
  have cB1_2 := cell_of_block (i := 2) HB1.out (v := .int .i64 r1) rfl
  have cB2_0 := cell_of_block (i := 0) HB2.out (v := .int .i64 V2) rfl
  have cB2_1 := cell_of_block (i := 1) HB2.out (v := .slice a2 len2 cap2) rfl
  have cB2_2 := cell_of_block (i := 2) HB2.out (v := .int .i64 r2) rfl
  have cB3_0 := cell_of_block (i := 0) HB3.out (v := .int .i64 V3) rfl
  have cB3_1 := cell_of_block (i := 1) HB3.out (v := .slice a3 len3 cap3) rfl
  have cB3_2 := cell_of_block (i := 2) HB3.out (v := .int .i64 r3) rfl
  have cgw_0 := cell_of_block (i := 0) Hgw.out (v := .int .i64 V) rfl
  have cgw_1 := cell_of_block (i := 1) Hgw.out (v := .slice aw ms.length cw) rfl
  have cgw_2 := cell_of_block (i := 2) Hgw.out (v := .int .i64 R) rfl
  go_upto_region 13 with fail
  refine code_gen (R := fun wb => wb.heap[w11.heap.size]? = some (.cells #[.int .i64 V1, .slice (some ⟨g1, 0, none⟩) len1 len1, .int .i64 r1] 24 (0, 0)) ∧ Below w11.heap.size w11 wb) ⟨by first | exact (MapKept.heap_alloc _ _).1 | exact heap_alloc_new _ _, by go_grown⟩ ?_
  rintro w12 ⟨k, hq⟩
  have lgx1 : w11.heap.size < w12.heap.size := (Array.getElem?_eq_some_iff.1 k).1
  replace HB1 := Go.Lib.hid ((hq.block _ lB1).trans HB1.out)
  replace lB1 := Nat.lt_of_lt_of_le lB1 hq.size
  replace HB2 := Go.Lib.hid ((hq.block _ lB2).trans HB2.out)
  replace lB2 := Nat.lt_of_lt_of_le lB2 hq.size
  replace HB3 := Go.Lib.hid ((hq.block _ lB3).trans HB3.out)
  replace lB3 := Nat.lt_of_lt_of_le lB3 hq.size
  replace Hgw := Go.Lib.hid ((hq.block _ lgw).trans Hgw.out)
  replace lgw := Nat.lt_of_lt_of_le lgw hq.size
  replace GL := Go.Lib.hid (GL.out.below hq)
  replace HOW := Go.Lib.hid (HOW.out.below hq)
  replace HC1 := Go.Lib.hid ((HC1.out.below hq).mono hq.size)
  replace HRM1 := Go.Lib.hid (HRM1.out.below hq)
  replace HB := Go.Lib.hid (HB.out.trans (hq.mono HB.out.size))
  clear cB1_0 cB1_1 cB1_2 cB2_0 cB2_1 cB2_2 cB3_0 cB3_1 cB3_2 cgw_0 cgw_1 cgw_2
  obtain ⟨gx1, hgx1⟩ : ∃ g, w11.heap.size = g := ⟨_, rfl⟩
  rw [hgx1] at k lgx1 ⊢
  have HEgx1 := Go.Lib.hid hgx1
  have Hgx1 := Go.Lib.hid k
  clear k hq hgx1
  have hgx1 : g1 < gx1 := by rw [← HEgx1.out]; exact hgl1
  have hgy1 : gx1 < w12.heap.size := lgx1
  have cB1_0 := cell_of_block (i := 0) HB1.out (v := .int .i64 V1) rfl
  have cB1_1 := cell_of_block (i := 1) HB1.out (v := .slice a1 len1 cap1) rfl
  have cB1_2 := cell_of_block (i := 2) HB1.out (v := .int .i64 r1) rfl
  have cB2_0 := cell_of_block (i := 0) HB2.out (v := .int .i64 V2) rfl
  have cB2_1 := cell_of_block (i := 1) HB2.out (v := .slice a2 len2 cap2) rfl
  have cB2_2 := cell_of_block (i := 2) HB2.out (v := .int .i64 r2) rfl
  have cB3_0 := cell_of_block (i := 0) HB3.out (v := .int .i64 V3) rfl
  have cB3_1 := cell_of_block (i := 1) HB3.out (v := .slice a3 len3 cap3) rfl
  have cB3_2 := cell_of_block (i := 2) HB3.out (v := .int .i64 r3) rfl
  have cgw_0 := cell_of_block (i := 0) Hgw.out (v := .int .i64 V) rfl
  have cgw_1 := cell_of_block (i := 1) Hgw.out (v := .slice aw ms.length cw) rfl
  have cgw_2 := cell_of_block (i := 2) Hgw.out (v := .int .i64 R) rfl
  have cgx1_0 := cell_of_block (i := 0) Hgx1.out (v := .int .i64 V1) rfl
  have cgx1_1 := cell_of_block (i := 1) Hgx1.out (v := .slice (some ⟨g1, 0, none⟩) len1 len1) rfl
  have cgx1_2 := cell_of_block (i := 2) Hgx1.out (v := .int .i64 r1) rfl
  go_wp2_with fail
  refine (c_toBdd (B := W.heap.size) V2 r2 w12 HB.out.size (HN2.out.below HB.out) hlen2).mono ?_
  rintro e w13 ⟨g2, rfl, hc, hrm, hg, hq⟩
  replace HB1 := Go.Lib.hid ((hq.block _ lB1).trans HB1.out)
  replace lB1 := Nat.lt_of_lt_of_le lB1 hq.size
  replace HB2 := Go.Lib.hid ((hq.block _ lB2).trans HB2.out)
  replace lB2 := Nat.lt_of_lt_of_le lB2 hq.size
  replace HB3 := Go.Lib.hid ((hq.block _ lB3).trans HB3.out)
  replace lB3 := Nat.lt_of_lt_of_le lB3 hq.size
  replace Hgw := Go.Lib.hid ((hq.block _ lgw).trans Hgw.out)
  replace lgw := Nat.lt_of_lt_of_le lgw hq.size
  replace Hgx1 := Go.Lib.hid ((hq.block _ lgx1).trans Hgx1.out)
  replace lgx1 := Nat.lt_of_lt_of_le lgx1 hq.size
  replace GL := Go.Lib.hid (GL.out.below hq)
  replace HOW := Go.Lib.hid (HOW.out.below hq)
  replace HC1 := Go.Lib.hid ((HC1.out.below hq).mono hq.size)
  replace HRM1 := Go.Lib.hid (HRM1.out.below hq)
  replace HB := Go.Lib.hid (HB.out.trans (hq.mono HB.out.size))
  clear cB1_0 cB1_1 cB1_2 cB2_0 cB2_1 cB2_2 cB3_0 cB3_1 cB3_2 cgw_0 cgw_1 cgw_2 cgx1_0 cgx1_1 cgx1_2
  have HC2 := Go.Lib.hid hc
  have HRM2 := Go.Lib.hid hrm
  have hwg2 : w12.heap.size ≤ g2 := hg
  have hgl2 : g2 < w13.heap.size := hrm.1
  clear hc hrm hg hq
  have cB1_0 := cell_of_block (i := 0) HB1.out (v := .int .i64 V1) rfl
  have cB1_1 := cell_of_block (i := 1) HB1.out (v := .slice a1 len1 cap1) rfl
  have cB1_2 := cell_of_block (i := 2) HB1.out (v := .int .i64 r1) rfl
  have cB2_0 := cell_of_block (i := 0) HB2.out (v := .int .i64 V2) rfl
  have cB2_1 := cell_of_block (i := 1) HB2.out (v := .slice a2 len2 cap2) rfl
  have cB2_2 := cell_of_block (i := 2) HB2.out (v := .int .i64 r2) rfl
  have cB3_0 := cell_of_block (i := 0) HB3.out (v := .int .i64 V3) rfl
  have cB3_1 := cell_of_block (i := 1) HB3.out (v := .slice a3 len3 cap3) rfl
  have cB3_2 := cell_of_block (i := 2) HB3.out (v := .int .i64 r3) rfl
  have cgw_0 := cell_of_block (i := 0) Hgw.out (v := .int .i64 V) rfl
  have cgw_1 := cell_of_block (i := 1) Hgw.out (v := .slice aw ms.length cw) rfl
  have cgw_2 := cell_of_block (i := 2) Hgw.out (v := .int .i64 R) rfl
  have cgx1_0 := cell_of_block (i := 0) Hgx1.out (v := .int .i64 V1) rfl
  have cgx1_1 := cell_of_block (i := 1) Hgx1.out (v := .slice (some ⟨g1, 0, none⟩) len1 len1) rfl
  have cgx1_2 := cell_of_block (i := 2) Hgx1.out (v := .int .i64 r1) rfl
  go_upto_region 14 with fail
  refine code_gen (R := fun wb => wb.heap[w13.heap.size]? = some (.cells #[.int .i64 V2, .slice (some ⟨g2, 0, none⟩) len2 len2, .int .i64 r2] 24 (0, 0)) ∧ Below w13.heap.size w13 wb) ⟨by first | exact (MapKept.heap_alloc _ _).1 | exact heap_alloc_new _ _, by go_grown⟩ ?_
  rintro w14 ⟨k, hq⟩
  have lgx2 : w13.heap.size < w14.heap.size := (Array.getElem?_eq_some_iff.1 k).1
  replace HB1 := Go.Lib.hid ((hq.block _ lB1).trans HB1.out)
  replace lB1 := Nat.lt_of_lt_of_le lB1 hq.size
  replace HB2 := Go.Lib.hid ((hq.block _ lB2).trans HB2.out)
  replace lB2 := Nat.lt_of_lt_of_le lB2 hq.size
  replace HB3 := Go.Lib.hid ((hq.block _ lB3).trans HB3.out)
  replace lB3 := Nat.lt_of_lt_of_le lB3 hq.size
  replace Hgw := Go.Lib.hid ((hq.block _ lgw).trans Hgw.out)
  replace lgw := Nat.lt_of_lt_of_le lgw hq.size
  replace Hgx1 := Go.Lib.hid ((hq.block _ lgx1).trans Hgx1.out)
  replace lgx1 := Nat.lt_of_lt_of_le lgx1 hq.size
  replace GL := Go.Lib.hid (GL.out.below hq)
  replace HOW := Go.Lib.hid (HOW.out.below hq)
  replace HC1 := Go.Lib.hid ((HC1.out.below hq).mono hq.size)
  replace HRM1 := Go.Lib.hid (HRM1.out.below hq)
  replace HC2 := Go.Lib.hid ((HC2.out.below hq).mono hq.size)
  replace HRM2 := Go.Lib.hid (HRM2.out.below hq)
  replace HB := Go.Lib.hid (HB.out.trans (hq.mono HB.out.size))
  clear cB1_0 cB1_1 cB1_2 cB2_0 cB2_1 cB2_2 cB3_0 cB3_1 cB3_2 cgw_0 cgw_1 cgw_2 cgx1_0 cgx1_1 cgx1_2
  obtain ⟨gx2, hgx2⟩ : ∃ g, w13.heap.size = g := ⟨_, rfl⟩
  rw [hgx2] at k lgx2 ⊢
  have HEgx2 := Go.Lib.hid hgx2
  have Hgx2 := Go.Lib.hid k
  clear k hq hgx2
  have hgx2 : g2 < gx2 := by rw [← HEgx2.out]; exact hgl2
  have hgy2 : gx2 < w14.heap.size := lgx2
  have cB1_0 := cell_of_block (i := 0) HB1.out (v := .int .i64 V1) rfl
  have cB1_1 := cell_of_block (i := 1) HB1.out (v := .slice a1 len1 cap1) rfl
  have cB1_2 := cell_of_block (i := 2) HB1.out (v := .int .i64 r1) rfl
  have cB2_0 := cell_of_block (i := 0) HB2.out (v := .int .i64 V2) rfl
  have cB2_1 := cell_of_block (i := 1) HB2.out (v := .slice a2 len2 cap2) rfl
  have cB2_2 := cell_of_block (i := 2) HB2.out (v := .int .i64 r2) rfl
  have cB3_0 := cell_of_block (i := 0) HB3.out (v := .int .i64 V3) rfl
  have cB3_1 := cell_of_block (i := 1) HB3.out (v := .slice a3 len3 cap3) rfl
  have cB3_2 := cell_of_block (i := 2) HB3.out (v := .int .i64 r3) rfl
  have cgw_0 := cell_of_block (i := 0) Hgw.out (v := .int .i64 V) rfl
  have cgw_1 := cell_of_block (i := 1) Hgw.out (v := .slice aw ms.length cw) rfl
  have cgw_2 := cell_of_block (i := 2) Hgw.out (v := .int .i64 R) rfl
  have cgx1_0 := cell_of_block (i := 0) Hgx1.out (v := .int .i64 V1) rfl
  have cgx1_1 := cell_of_block (i := 1) Hgx1.out (v := .slice (some ⟨g1, 0, none⟩) len1 len1) rfl
  have cgx1_2 := cell_of_block (i := 2) Hgx1.out (v := .int .i64 r1) rfl
  have cgx2_0 := cell_of_block (i := 0) Hgx2.out (v := .int .i64 V2) rfl
  have cgx2_1 := cell_of_block (i := 1) Hgx2.out (v := .slice (some ⟨g2, 0, none⟩) len2 len2) rfl
  have cgx2_2 := cell_of_block (i := 2) Hgx2.out (v := .int .i64 r2) rfl
  go_wp2_with fail
  refine (c_toBdd (B := W.heap.size) V3 r3 w14 HB.out.size (HN3.out.below HB.out) hlen3).mono ?_
  rintro e w15 ⟨g3, rfl, hc, hrm, hg, hq⟩
  replace HB1 := Go.Lib.hid ((hq.block _ lB1).trans HB1.out)
  replace lB1 := Nat.lt_of_lt_of_le lB1 hq.size
  replace HB2 := Go.Lib.hid ((hq.block _ lB2).trans HB2.out)
  replace lB2 := Nat.lt_of_lt_of_le lB2 hq.size
  replace HB3 := Go.Lib.hid ((hq.block _ lB3).trans HB3.out)
  replace lB3 := Nat.lt_of_lt_of_le lB3 hq.size
  replace Hgw := Go.Lib.hid ((hq.block _ lgw).trans Hgw.out)
  replace lgw := Nat.lt_of_lt_of_le lgw hq.size
  replace Hgx1 := Go.Lib.hid ((hq.block _ lgx1).trans Hgx1.out)
  replace lgx1 := Nat.lt_of_lt_of_le lgx1 hq.size
  replace Hgx2 := Go.Lib.hid ((hq.block _ lgx2).trans Hgx2.out)
  replace lgx2 := Nat.lt_of_lt_of_le lgx2 hq.size
  replace GL := Go.Lib.hid (GL.out.below hq)
  replace HOW := Go.Lib.hid (HOW.out.below hq)
  replace HC1 := Go.Lib.hid ((HC1.out.below hq).mono hq.size)
  replace HRM1 := Go.Lib.hid (HRM1.out.below hq)
  replace HC2 := Go.Lib.hid ((HC2.out.below hq).mono hq.size)
  replace HRM2 := Go.Lib.hid (HRM2.out.below hq)
  replace HB := Go.Lib.hid (HB.out.trans (hq.mono HB.out.size))
  clear cB1_0 cB1_1 cB1_2 cB2_0 cB2_1 cB2_2 cB3_0 cB3_1 cB3_2 cgw_0 cgw_1 cgw_2 cgx1_0 cgx1_1 cgx1_2 cgx2_0 cgx2_1 cgx2_2
  have HC3 := Go.Lib.hid hc
  have HRM3 := Go.Lib.hid hrm
  have hwg3 : w14.heap.size ≤ g3 := hg
  have hgl3 : g3 < w15.heap.size := hrm.1
  clear hc hrm hg hq
  have cB1_0 := cell_of_block (i := 0) HB1.out (v := .int .i64 V1) rfl
  have cB1_1 := cell_of_block (i := 1) HB1.out (v := .slice a1 len1 cap1) rfl
  have cB1_2 := cell_of_block (i := 2) HB1.out (v := .int .i64 r1) rfl
  have cB2_0 := cell_of_block (i := 0) HB2.out (v := .int .i64 V2) rfl
  have cB2_1 := cell_of_block (i := 1) HB2.out (v := .slice a2 len2 cap2) rfl
  have cB2_2 := cell_of_block (i := 2) HB2.out (v := .int .i64 r2) rfl
  have cB3_0 := cell_of_block (i := 0) HB3.out (v := .int .i64 V3) rfl
  have cB3_1 := cell_of_block (i := 1) HB3.out (v := .slice a3 len3 cap3) rfl
  have cB3_2 := cell_of_block (i := 2) HB3.out (v := .int .i64 r3) rfl
  have cgw_0 := cell_of_block (i := 0) Hgw.out (v := .int .i64 V) rfl
  have cgw_1 := cell_of_block (i := 1) Hgw.out (v := .slice aw ms.length cw) rfl
  have cgw_2 := cell_of_block (i := 2) Hgw.out (v := .int .i64 R) rfl
  have cgx1_0 := cell_of_block (i := 0) Hgx1.out (v := .int .i64 V1) rfl
  have cgx1_1 := cell_of_block (i := 1) Hgx1.out (v := .slice (some ⟨g1, 0, none⟩) len1 len1) rfl
  have cgx1_2 := cell_of_block (i := 2) Hgx1.out (v := .int .i64 r1) rfl
  have cgx2_0 := cell_of_block (i := 0) Hgx2.out (v := .int .i64 V2) rfl
  have cgx2_1 := cell_of_block (i := 1) Hgx2.out (v := .slice (some ⟨g2, 0, none⟩) len2 len2) rfl
  have cgx2_2 := cell_of_block (i := 2) Hgx2.out (v := .int .i64 r2) rfl
  go_upto_region 15 with fail
  refine code_gen (R := fun wb => wb.heap[w15.heap.size]? = some (.cells #[.int .i64 V3, .slice (some ⟨g3, 0, none⟩) len3 len3, .int .i64 r3] 24 (0, 0)) ∧ Below w15.heap.size w15 wb) ⟨by first | exact (MapKept.heap_alloc _ _).1 | exact heap_alloc_new _ _, by go_grown⟩ ?_
  rintro w16 ⟨k, hq⟩
  have lgx3 : w15.heap.size < w16.heap.size := (Array.getElem?_eq_some_iff.1 k).1
  replace HB1 := Go.Lib.hid ((hq.block _ lB1).trans HB1.out)
  replace lB1 := Nat.lt_of_lt_of_le lB1 hq.size
  replace HB2 := Go.Lib.hid ((hq.block _ lB2).trans HB2.out)
  replace lB2 := Nat.lt_of_lt_of_le lB2 hq.size
  replace HB3 := Go.Lib.hid ((hq.block _ lB3).trans HB3.out)
  replace lB3 := Nat.lt_of_lt_of_le lB3 hq.size
  replace Hgw := Go.Lib.hid ((hq.block _ lgw).trans Hgw.out)
  replace lgw := Nat.lt_of_lt_of_le lgw hq.size
  replace Hgx1 := Go.Lib.hid ((hq.block _ lgx1).trans Hgx1.out)
  replace lgx1 := Nat.lt_of_lt_of_le lgx1 hq.size
  replace Hgx2 := Go.Lib.hid ((hq.block _ lgx2).trans Hgx2.out)
  replace lgx2 := Nat.lt_of_lt_of_le lgx2 hq.size
  replace GL := Go.Lib.hid (GL.out.below hq)
  replace HOW := Go.Lib.hid (HOW.out.below hq)
  replace HC1 := Go.Lib.hid ((HC1.out.below hq).mono hq.size)
  replace HRM1 := Go.Lib.hid (HRM1.out.below hq)
  replace HC2 := Go.Lib.hid ((HC2.out.below hq).mono hq.size)
  replace HRM2 := Go.Lib.hid (HRM2.out.below hq)
  replace HC3 := Go.Lib.hid ((HC3.out.below hq).mono hq.size)
  replace HRM3 := Go.Lib.hid (HRM3.out.below hq)
  replace HB := Go.Lib.hid (HB.out.trans (hq.mono HB.out.size))
  clear cB1_0 cB1_1 cB1_2 cB2_0 cB2_1 cB2_2 cB3_0 cB3_1 cB3_2 cgw_0 cgw_1 cgw_2 cgx1_0 cgx1_1 cgx1_2 cgx2_0 cgx2_1 cgx2_2
  obtain ⟨gx3, hgx3⟩ : ∃ g, w15.heap.size = g := ⟨_, rfl⟩
  rw [hgx3] at k lgx3 ⊢
  have HEgx3 := Go.Lib.hid hgx3
  have Hgx3 := Go.Lib.hid k
  clear k hq hgx3
  have hgx3 : g3 < gx3 := by rw [← HEgx3.out]; exact hgl3
  have hgy3 : gx3 < w16.heap.size := lgx3
  have cB1_0 := cell_of_block (i := 0) HB1.out (v := .int .i64 V1) rfl
  have cB1_1 := cell_of_block (i := 1) HB1.out (v := .slice a1 len1 cap1) rfl
  have cB1_2 := cell_of_block (i := 2) HB1.out (v := .int .i64 r1) rfl
  have cB2_0 := cell_of_block (i := 0) HB2.out (v := .int .i64 V2) rfl
  have cB2_1 := cell_of_block (i := 1) HB2.out (v := .slice a2 len2 cap2) rfl
  have cB2_2 := cell_of_block (i := 2) HB2.out (v := .int .i64 r2) rfl
  have cB3_0 := cell_of_block (i := 0) HB3.out (v := .int .i64 V3) rfl
  have cB3_1 := cell_of_block (i := 1) HB3.out (v := .slice a3 len3 cap3) rfl
  have cB3_2 := cell_of_block (i := 2) HB3.out (v := .int .i64 r3) rfl
  have cgw_0 := cell_of_block (i := 0) Hgw.out (v := .int .i64 V) rfl
  have cgw_1 := cell_of_block (i := 1) Hgw.out (v := .slice aw ms.length cw) rfl
  have cgw_2 := cell_of_block (i := 2) Hgw.out (v := .int .i64 R) rfl
  have cgx1_0 := cell_of_block (i := 0) Hgx1.out (v := .int .i64 V1) rfl
  have cgx1_1 := cell_of_block (i := 1) Hgx1.out (v := .slice (some ⟨g1, 0, none⟩) len1 len1) rfl
  have cgx1_2 := cell_of_block (i := 2) Hgx1.out (v := .int .i64 r1) rfl
  have cgx2_0 := cell_of_block (i := 0) Hgx2.out (v := .int .i64 V2) rfl
  have cgx2_1 := cell_of_block (i := 1) Hgx2.out (v := .slice (some ⟨g2, 0, none⟩) len2 len2) rfl
  have cgx2_2 := cell_of_block (i := 2) Hgx2.out (v := .int .i64 r2) rfl
  have cgx3_0 := cell_of_block (i := 0) Hgx3.out (v := .int .i64 V3) rfl
  have cgx3_1 := cell_of_block (i := 1) Hgx3.out (v := .slice (some ⟨g3, 0, none⟩) len3 len3) rfl
  have cgx3_2 := cell_of_block (i := 2) Hgx3.out (v := .int .i64 r3) rfl
  go_wp2_with fail
  refine (c_BddIfI (B := w16.heap.size) V1 r1 V2 r2 V3 r3 w16 GL.out (Nat.le_refl _) HC1.out HC2.out HC3.out).mono ?_
  rintro e w17 ⟨vg, V', R', q', ms', rfl, hog, hcr, hq⟩
  replace HB1 := Go.Lib.hid ((hq.block _ lB1).trans HB1.out)
  replace lB1 := Nat.lt_of_lt_of_le lB1 hq.size
  replace HB2 := Go.Lib.hid ((hq.block _ lB2).trans HB2.out)
  replace lB2 := Nat.lt_of_lt_of_le lB2 hq.size
  replace HB3 := Go.Lib.hid ((hq.block _ lB3).trans HB3.out)
  replace lB3 := Nat.lt_of_lt_of_le lB3 hq.size
  replace Hgw := Go.Lib.hid ((hq.block _ lgw).trans Hgw.out)
  replace lgw := Nat.lt_of_lt_of_le lgw hq.size
  replace Hgx1 := Go.Lib.hid ((hq.block _ lgx1).trans Hgx1.out)
  replace lgx1 := Nat.lt_of_lt_of_le lgx1 hq.size
  replace Hgx2 := Go.Lib.hid ((hq.block _ lgx2).trans Hgx2.out)
  replace lgx2 := Nat.lt_of_lt_of_le lgx2 hq.size
  replace Hgx3 := Go.Lib.hid ((hq.block _ lgx3).trans Hgx3.out)
  replace lgx3 := Nat.lt_of_lt_of_le lgx3 hq.size
  replace GL := Go.Lib.hid (GL.out.below hq)
  replace HOW := Go.Lib.hid (HOW.out.below hq)
  replace HC1 := Go.Lib.hid ((HC1.out.below hq).mono hq.size)
  replace HRM1 := Go.Lib.hid (HRM1.out.below hq)
  replace HC2 := Go.Lib.hid ((HC2.out.below hq).mono hq.size)
  replace HRM2 := Go.Lib.hid (HRM2.out.below hq)
  replace HC3 := Go.Lib.hid ((HC3.out.below hq).mono hq.size)
  replace HRM3 := Go.Lib.hid (HRM3.out.below hq)
  replace HB := Go.Lib.hid (HB.out.trans (hq.mono HB.out.size))
  clear cB1_0 cB1_1 cB1_2 cB2_0 cB2_1 cB2_2 cB3_0 cB3_1 cB3_2 cgw_0 cgw_1 cgw_2 cgx1_0 cgx1_1 cgx1_2 cgx2_0 cgx2_1 cgx2_2 cgx3_0 cgx3_1 cgx3_2
  obtain ⟨rfl, rfl, rfl, rfl⟩ := hcr.inj (fun h => by have h1 := h.1.2.1.hv; omega) HCR.out
  obtain ⟨ag, cg, rfl, hfm⟩ := OwnN.form hog
  have HOG := Go.Lib.hid hog
  have HRG := Go.Lib.hid (ownBS_of hfm)
  have HGB := Go.Lib.hid (ownB_at hfm)
  have hs5 := hq.size
  clear hog hcr hfm hq
  have cB1_0 := cell_of_block (i := 0) HB1.out (v := .int .i64 V1) rfl
  have cB1_1 := cell_of_block (i := 1) HB1.out (v := .slice a1 len1 cap1) rfl
  have cB1_2 := cell_of_block (i := 2) HB1.out (v := .int .i64 r1) rfl
  have cB2_0 := cell_of_block (i := 0) HB2.out (v := .int .i64 V2) rfl
  have cB2_1 := cell_of_block (i := 1) HB2.out (v := .slice a2 len2 cap2) rfl
  have cB2_2 := cell_of_block (i := 2) HB2.out (v := .int .i64 r2) rfl
  have cB3_0 := cell_of_block (i := 0) HB3.out (v := .int .i64 V3) rfl
  have cB3_1 := cell_of_block (i := 1) HB3.out (v := .slice a3 len3 cap3) rfl
  have cB3_2 := cell_of_block (i := 2) HB3.out (v := .int .i64 r3) rfl
  have cgw_0 := cell_of_block (i := 0) Hgw.out (v := .int .i64 V') rfl
  have cgw_1 := cell_of_block (i := 1) Hgw.out (v := .slice aw ms'.length cw) rfl
  have cgw_2 := cell_of_block (i := 2) Hgw.out (v := .int .i64 R') rfl
  have cgx1_0 := cell_of_block (i := 0) Hgx1.out (v := .int .i64 V1) rfl
  have cgx1_1 := cell_of_block (i := 1) Hgx1.out (v := .slice (some ⟨g1, 0, none⟩) len1 len1) rfl
  have cgx1_2 := cell_of_block (i := 2) Hgx1.out (v := .int .i64 r1) rfl
  have cgx2_0 := cell_of_block (i := 0) Hgx2.out (v := .int .i64 V2) rfl
  have cgx2_1 := cell_of_block (i := 1) Hgx2.out (v := .slice (some ⟨g2, 0, none⟩) len2 len2) rfl
  have cgx2_2 := cell_of_block (i := 2) Hgx2.out (v := .int .i64 r2) rfl
  have cgx3_0 := cell_of_block (i := 0) Hgx3.out (v := .int .i64 V3) rfl
  have cgx3_1 := cell_of_block (i := 1) Hgx3.out (v := .slice (some ⟨g3, 0, none⟩) len3 len3) rfl
  have cgx3_2 := cell_of_block (i := 2) Hgx3.out (v := .int .i64 r3) rfl
  go_upto_region 16 with fail
  refine code_gen (R := fun wb => wb.heap[w17.heap.size]? = some (.cells #[.int .i64 V', .slice ag ms'.length cg, .int .i64 R'] 24 (0, 0)) ∧ Below w17.heap.size w17 wb) ⟨by first | exact (MapKept.heap_alloc _ _).1 | exact heap_alloc_new _ _, by go_grown⟩ ?_
  rintro w18 ⟨k, hq⟩
  have lgg : w17.heap.size < w18.heap.size := (Array.getElem?_eq_some_iff.1 k).1
  replace HB1 := Go.Lib.hid ((hq.block _ lB1).trans HB1.out)
  replace lB1 := Nat.lt_of_lt_of_le lB1 hq.size
  replace HB2 := Go.Lib.hid ((hq.block _ lB2).trans HB2.out)
  replace lB2 := Nat.lt_of_lt_of_le lB2 hq.size
  replace HB3 := Go.Lib.hid ((hq.block _ lB3).trans HB3.out)
  replace lB3 := Nat.lt_of_lt_of_le lB3 hq.size
  replace Hgw := Go.Lib.hid ((hq.block _ lgw).trans Hgw.out)
  replace lgw := Nat.lt_of_lt_of_le lgw hq.size
  replace Hgx1 := Go.Lib.hid ((hq.block _ lgx1).trans Hgx1.out)
  replace lgx1 := Nat.lt_of_lt_of_le lgx1 hq.size
  replace Hgx2 := Go.Lib.hid ((hq.block _ lgx2).trans Hgx2.out)
  replace lgx2 := Nat.lt_of_lt_of_le lgx2 hq.size
  replace Hgx3 := Go.Lib.hid ((hq.block _ lgx3).trans Hgx3.out)
  replace lgx3 := Nat.lt_of_lt_of_le lgx3 hq.size
  replace GL := Go.Lib.hid (GL.out.below hq)
  replace HOW := Go.Lib.hid (HOW.out.below hq)
  replace HC1 := Go.Lib.hid ((HC1.out.below hq).mono hq.size)
  replace HRM1 := Go.Lib.hid (HRM1.out.below hq)
  replace HC2 := Go.Lib.hid ((HC2.out.below hq).mono hq.size)
  replace HRM2 := Go.Lib.hid (HRM2.out.below hq)
  replace HC3 := Go.Lib.hid ((HC3.out.below hq).mono hq.size)
  replace HRM3 := Go.Lib.hid (HRM3.out.below hq)
  replace HOG := Go.Lib.hid (HOG.out.below hq)
  replace HRG := Go.Lib.hid (HRG.out.below hq)
  replace HB := Go.Lib.hid (HB.out.trans (hq.mono HB.out.size))
  clear cB1_0 cB1_1 cB1_2 cB2_0 cB2_1 cB2_2 cB3_0 cB3_1 cB3_2 cgw_0 cgw_1 cgw_2 cgx1_0 cgx1_1 cgx1_2 cgx2_0 cgx2_1 cgx2_2 cgx3_0 cgx3_1 cgx3_2
  obtain ⟨gg, hgg⟩ : ∃ g, w17.heap.size = g := ⟨_, rfl⟩
  rw [hgg] at k lgg ⊢
  have HEgg := Go.Lib.hid hgg
  have Hgg := Go.Lib.hid k
  clear k hq hgg
  have HGC := Go.Lib.hid (show ∀ b, ag = some ⟨b, 0, none⟩ → w16.heap.size ≤ b ∧ b < gg from fun b hb => ⟨(HGB.out b hb).1, by have h1 := (HGB.out b hb).2; have h2 := HEgg.out; omega⟩)
  clear HGB
  have hgg : w16.heap.size ≤ gg := by have h2 := HEgg.out; have h3 := hs5; omega
  have cB1_0 := cell_of_block (i := 0) HB1.out (v := .int .i64 V1) rfl
  have cB1_1 := cell_of_block (i := 1) HB1.out (v := .slice a1 len1 cap1) rfl
  have cB1_2 := cell_of_block (i := 2) HB1.out (v := .int .i64 r1) rfl
  have cB2_0 := cell_of_block (i := 0) HB2.out (v := .int .i64 V2) rfl
  have cB2_1 := cell_of_block (i := 1) HB2.out (v := .slice a2 len2 cap2) rfl
  have cB2_2 := cell_of_block (i := 2) HB2.out (v := .int .i64 r2) rfl
  have cB3_0 := cell_of_block (i := 0) HB3.out (v := .int .i64 V3) rfl
  have cB3_1 := cell_of_block (i := 1) HB3.out (v := .slice a3 len3 cap3) rfl
  have cB3_2 := cell_of_block (i := 2) HB3.out (v := .int .i64 r3) rfl
  have cgw_0 := cell_of_block (i := 0) Hgw.out (v := .int .i64 V') rfl
  have cgw_1 := cell_of_block (i := 1) Hgw.out (v := .slice aw ms'.length cw) rfl
  have cgw_2 := cell_of_block (i := 2) Hgw.out (v := .int .i64 R') rfl
  have cgx1_0 := cell_of_block (i := 0) Hgx1.out (v := .int .i64 V1) rfl
  have cgx1_1 := cell_of_block (i := 1) Hgx1.out (v := .slice (some ⟨g1, 0, none⟩) len1 len1) rfl
  have cgx1_2 := cell_of_block (i := 2) Hgx1.out (v := .int .i64 r1) rfl
  have cgx2_0 := cell_of_block (i := 0) Hgx2.out (v := .int .i64 V2) rfl
  have cgx2_1 := cell_of_block (i := 1) Hgx2.out (v := .slice (some ⟨g2, 0, none⟩) len2 len2) rfl
  have cgx2_2 := cell_of_block (i := 2) Hgx2.out (v := .int .i64 r2) rfl
  have cgx3_0 := cell_of_block (i := 0) Hgx3.out (v := .int .i64 V3) rfl
  have cgx3_1 := cell_of_block (i := 1) Hgx3.out (v := .slice (some ⟨g3, 0, none⟩) len3 len3) rfl
  have cgx3_2 := cell_of_block (i := 2) Hgx3.out (v := .int .i64 r3) rfl
  have cgg_0 := cell_of_block (i := 0) Hgg.out (v := .int .i64 V') rfl
  have cgg_1 := cell_of_block (i := 1) Hgg.out (v := .slice ag ms'.length cg) rfl
  have cgg_2 := cell_of_block (i := 2) Hgg.out (v := .int .i64 R') rfl
  go_wp2_with fail
  refine (c_eqBdd (B := w18.heap.size) V' R' w18 (Nat.le_refl _) (HOG.out.bns rfl) (HOW.out.bns rfl)).mono ?_
  rintro e w19 ⟨rfl, hq⟩
  replace HB1 := Go.Lib.hid ((hq.block _ lB1).trans HB1.out)
  replace lB1 := Nat.lt_of_lt_of_le lB1 hq.size
  replace HB2 := Go.Lib.hid ((hq.block _ lB2).trans HB2.out)
  replace lB2 := Nat.lt_of_lt_of_le lB2 hq.size
  replace HB3 := Go.Lib.hid ((hq.block _ lB3).trans HB3.out)
  replace lB3 := Nat.lt_of_lt_of_le lB3 hq.size
  replace Hgw := Go.Lib.hid ((hq.block _ lgw).trans Hgw.out)
  replace lgw := Nat.lt_of_lt_of_le lgw hq.size
  replace Hgx1 := Go.Lib.hid ((hq.block _ lgx1).trans Hgx1.out)
  replace lgx1 := Nat.lt_of_lt_of_le lgx1 hq.size
  replace Hgx2 := Go.Lib.hid ((hq.block _ lgx2).trans Hgx2.out)
  replace lgx2 := Nat.lt_of_lt_of_le lgx2 hq.size
  replace Hgx3 := Go.Lib.hid ((hq.block _ lgx3).trans Hgx3.out)
  replace lgx3 := Nat.lt_of_lt_of_le lgx3 hq.size
  replace Hgg := Go.Lib.hid ((hq.block _ lgg).trans Hgg.out)
  replace lgg := Nat.lt_of_lt_of_le lgg hq.size
  replace GL := Go.Lib.hid (GL.out.below hq)
  replace HOW := Go.Lib.hid (HOW.out.below hq)
  replace HC1 := Go.Lib.hid ((HC1.out.below hq).mono hq.size)
  replace HRM1 := Go.Lib.hid (HRM1.out.below hq)
  replace HC2 := Go.Lib.hid ((HC2.out.below hq).mono hq.size)
  replace HRM2 := Go.Lib.hid (HRM2.out.below hq)
  replace HC3 := Go.Lib.hid ((HC3.out.below hq).mono hq.size)
  replace HRM3 := Go.Lib.hid (HRM3.out.below hq)
  replace HOG := Go.Lib.hid (HOG.out.below hq)
  replace HRG := Go.Lib.hid (HRG.out.below hq)
  replace HB := Go.Lib.hid (HB.out.trans (hq.mono HB.out.size))
  clear cB1_0 cB1_1 cB1_2 cB2_0 cB2_1 cB2_2 cB3_0 cB3_1 cB3_2 cgw_0 cgw_1 cgw_2 cgx1_0 cgx1_1 cgx1_2 cgx2_0 cgx2_1 cgx2_2 cgx3_0 cgx3_1 cgx3_2 cgg_0 cgg_1 cgg_2
  clear hq
  have cB1_0 := cell_of_block (i := 0) HB1.out (v := .int .i64 V1) rfl
  have cB1_1 := cell_of_block (i := 1) HB1.out (v := .slice a1 len1 cap1) rfl
  have cB1_2 := cell_of_block (i := 2) HB1.out (v := .int .i64 r1) rfl
  have cB2_0 := cell_of_block (i := 0) HB2.out (v := .int .i64 V2) rfl
  have cB2_1 := cell_of_block (i := 1) HB2.out (v := .slice a2 len2 cap2) rfl
  have cB2_2 := cell_of_block (i := 2) HB2.out (v := .int .i64 r2) rfl
  have cB3_0 := cell_of_block (i := 0) HB3.out (v := .int .i64 V3) rfl
  have cB3_1 := cell_of_block (i := 1) HB3.out (v := .slice a3 len3 cap3) rfl
  have cB3_2 := cell_of_block (i := 2) HB3.out (v := .int .i64 r3) rfl
  have cgw_0 := cell_of_block (i := 0) Hgw.out (v := .int .i64 V') rfl
  have cgw_1 := cell_of_block (i := 1) Hgw.out (v := .slice aw ms'.length cw) rfl
  have cgw_2 := cell_of_block (i := 2) Hgw.out (v := .int .i64 R') rfl
  have cgx1_0 := cell_of_block (i := 0) Hgx1.out (v := .int .i64 V1) rfl
  have cgx1_1 := cell_of_block (i := 1) Hgx1.out (v := .slice (some ⟨g1, 0, none⟩) len1 len1) rfl
  have cgx1_2 := cell_of_block (i := 2) Hgx1.out (v := .int .i64 r1) rfl
  have cgx2_0 := cell_of_block (i := 0) Hgx2.out (v := .int .i64 V2) rfl
  have cgx2_1 := cell_of_block (i := 1) Hgx2.out (v := .slice (some ⟨g2, 0, none⟩) len2 len2) rfl
  have cgx2_2 := cell_of_block (i := 2) Hgx2.out (v := .int .i64 r2) rfl
  have cgx3_0 := cell_of_block (i := 0) Hgx3.out (v := .int .i64 V3) rfl
  have cgx3_1 := cell_of_block (i := 1) Hgx3.out (v := .slice (some ⟨g3, 0, none⟩) len3 len3) rfl
  have cgx3_2 := cell_of_block (i := 2) Hgx3.out (v := .int .i64 r3) rfl
  have cgg_0 := cell_of_block (i := 0) Hgg.out (v := .int .i64 V') rfl
  have cgg_1 := cell_of_block (i := 1) Hgg.out (v := .slice ag ms'.length cg) rfl
  have cgg_2 := cell_of_block (i := 2) Hgg.out (v := .int .i64 R') rfl
  go_upto_region 18 with fail
  refine wp_region_held_drew (S := (fun w' => w'.cell? ⟨W.heap.size, 0, none⟩ = some (.int .i64 V1) ∧ w'.cell? ⟨W.heap.size, 1, none⟩ = some (.slice a1 len1 cap1) ∧ w'.cell? ⟨W.heap.size, 2, none⟩ = some (.int .i64 r1) ∧ w'.cell? ⟨gx1, 0, none⟩ = some (.int .i64 V1) ∧ w'.cell? ⟨gx1, 1, none⟩ = some (.slice (some ⟨g1, 0, none⟩) len1 len1) ∧ w'.cell? ⟨gx1, 2, none⟩ = some (.int .i64 r1))) (by kernel_rfl) ?_ (fun hHeld => ?_)
  · first | exact ⟨cB1_0, cB1_1, cB1_2, cgx1_0, cgx1_1, cgx1_2⟩ | exact ⟨keepc HQ8.out lB1 cB1_0, keepc HQ8.out lB1 cB1_1, keepc HQ8.out lB1 cB1_2, keepc HQ8.out lgx1 cgx1_0, keepc HQ8.out lgx1 cgx1_1, keepc HQ8.out lgx1 cgx1_2⟩ | exact ⟨keepc HQ7.out lB1 cB1_0, keepc HQ7.out lB1 cB1_1, keepc HQ7.out lB1 cB1_2, keepc HQ7.out lgx1 cgx1_0, keepc HQ7.out lgx1 cgx1_1, keepc HQ7.out lgx1 cgx1_2⟩
  refine tL 0 (some 67) ?_
  refine tL 1 (some 68) ?_
  refine wpAnyH_ready (rs := [2]) (by kernel_rfl) (by simp) ?_
  refine AllReadyH.cons (o := _) rfl (fun K hK => ?_) AllReadyH.nil
  go_simp
  refine (c_toBdd (B := W.heap.size) V1 r1 w19.drew HB.out.size ((HN1.out.below HB.out).below (Below.refl _ w19).drew) hlen1).mono ?_
  rintro e wt ⟨h, rfl, hd, -, -, hq⟩
  have HD := Go.Lib.hid hd
  have HQ7 := Go.Lib.hid (show Below w19.heap.size w19 wt from ⟨hq.os, hq.tape, hq.output, hq.size, hq.block⟩)
  clear hd hq
  (try go_wp2_with fail)
  (try clear hHeld)
  refine hK.out _ _ ?_ (fun hHeld => ?_)
  · first | exact ⟨cB1_0, cB1_1, cB1_2, cgx1_0, cgx1_1, cgx1_2⟩ | exact ⟨keepc HQ8.out lB1 cB1_0, keepc HQ8.out lB1 cB1_1, keepc HQ8.out lB1 cB1_2, keepc HQ8.out lgx1 cgx1_0, keepc HQ8.out lgx1 cgx1_1, keepc HQ8.out lgx1 cgx1_2⟩ | exact ⟨keepc HQ7.out lB1 cB1_0, keepc HQ7.out lB1 cB1_1, keepc HQ7.out lB1 cB1_2, keepc HQ7.out lgx1 cgx1_0, keepc HQ7.out lgx1 cgx1_1, keepc HQ7.out lgx1 cgx1_2⟩
  clear hK K
  (try simp only [Act.put, List.setIfInBounds_toArray, List.set_cons_zero, List.set_cons_succ])
  refine wpAnyH_ready (rs := [3]) (by kernel_rfl) (by simp) ?_
  refine AllReadyH.cons (o := _) rfl (fun K hK => ?_) AllReadyH.nil
  go_simp
  refine (c_eqBdd (B := wt.heap.size) V1 r1 wt (Nat.le_refl _) ((HC1.out.below HQ7.out).mono HQ7.out.size) HD.out).mono ?_
  rintro e we ⟨rfl, hq⟩
  have HQ8 := Go.Lib.hid (HQ7.out.trans (hq.mono HQ7.out.size))
  clear hq
  (try go_wp2_with fail)
  (try clear hHeld)
  refine hK.out _ _ ?_ (fun hHeld => ?_)
  · first | exact ⟨cB1_0, cB1_1, cB1_2, cgx1_0, cgx1_1, cgx1_2⟩ | exact ⟨keepc HQ8.out lB1 cB1_0, keepc HQ8.out lB1 cB1_1, keepc HQ8.out lB1 cB1_2, keepc HQ8.out lgx1 cgx1_0, keepc HQ8.out lgx1 cgx1_1, keepc HQ8.out lgx1 cgx1_2⟩ | exact ⟨keepc HQ7.out lB1 cB1_0, keepc HQ7.out lB1 cB1_1, keepc HQ7.out lB1 cB1_2, keepc HQ7.out lgx1 cgx1_0, keepc HQ7.out lgx1 cgx1_1, keepc HQ7.out lgx1 cgx1_2⟩
  clear hK K
  (try simp only [Act.put, List.setIfInBounds_toArray, List.set_cons_zero, List.set_cons_succ])
  refine tL 4 (some 71) ?_
  refine wpAnyH_done (by kernel_rfl) ?_ _
  clear hHeld
  go_upto_region 20 with fail
  refine code_gen (R := fun wb => Below w19.heap.size w19 wb) (by first | exact HQ8.out | exact HQ8.out.drew | go_grown) ?_
  clear HQ7 HQ8 HD
  rintro w20 hq
  replace HB1 := Go.Lib.hid ((hq.block _ lB1).trans HB1.out)
  replace lB1 := Nat.lt_of_lt_of_le lB1 hq.size
  replace HB2 := Go.Lib.hid ((hq.block _ lB2).trans HB2.out)
  replace lB2 := Nat.lt_of_lt_of_le lB2 hq.size
  replace HB3 := Go.Lib.hid ((hq.block _ lB3).trans HB3.out)
  replace lB3 := Nat.lt_of_lt_of_le lB3 hq.size
  replace Hgw := Go.Lib.hid ((hq.block _ lgw).trans Hgw.out)
  replace lgw := Nat.lt_of_lt_of_le lgw hq.size
  replace Hgx1 := Go.Lib.hid ((hq.block _ lgx1).trans Hgx1.out)
  replace lgx1 := Nat.lt_of_lt_of_le lgx1 hq.size
  replace Hgx2 := Go.Lib.hid ((hq.block _ lgx2).trans Hgx2.out)
  replace lgx2 := Nat.lt_of_lt_of_le lgx2 hq.size
  replace Hgx3 := Go.Lib.hid ((hq.block _ lgx3).trans Hgx3.out)
  replace lgx3 := Nat.lt_of_lt_of_le lgx3 hq.size
  replace Hgg := Go.Lib.hid ((hq.block _ lgg).trans Hgg.out)
  replace lgg := Nat.lt_of_lt_of_le lgg hq.size
  replace GL := Go.Lib.hid (GL.out.below hq)
  replace HOW := Go.Lib.hid (HOW.out.below hq)
  replace HC1 := Go.Lib.hid ((HC1.out.below hq).mono hq.size)
  replace HRM1 := Go.Lib.hid (HRM1.out.below hq)
  replace HC2 := Go.Lib.hid ((HC2.out.below hq).mono hq.size)
  replace HRM2 := Go.Lib.hid (HRM2.out.below hq)
  replace HC3 := Go.Lib.hid ((HC3.out.below hq).mono hq.size)
  replace HRM3 := Go.Lib.hid (HRM3.out.below hq)
  replace HOG := Go.Lib.hid (HOG.out.below hq)
  replace HRG := Go.Lib.hid (HRG.out.below hq)
  replace HB := Go.Lib.hid (HB.out.trans (hq.mono HB.out.size))
  clear cB1_0 cB1_1 cB1_2 cB2_0 cB2_1 cB2_2 cB3_0 cB3_1 cB3_2 cgw_0 cgw_1 cgw_2 cgx1_0 cgx1_1 cgx1_2 cgx2_0 cgx2_1 cgx2_2 cgx3_0 cgx3_1 cgx3_2 cgg_0 cgg_1 cgg_2
  clear hq
  have cB1_0 := cell_of_block (i := 0) HB1.out (v := .int .i64 V1) rfl
  have cB1_1 := cell_of_block (i := 1) HB1.out (v := .slice a1 len1 cap1) rfl
  have cB1_2 := cell_of_block (i := 2) HB1.out (v := .int .i64 r1) rfl
  have cB2_0 := cell_of_block (i := 0) HB2.out (v := .int .i64 V2) rfl
  have cB2_1 := cell_of_block (i := 1) HB2.out (v := .slice a2 len2 cap2) rfl
  have cB2_2 := cell_of_block (i := 2) HB2.out (v := .int .i64 r2) rfl
  have cB3_0 := cell_of_block (i := 0) HB3.out (v := .int .i64 V3) rfl
  have cB3_1 := cell_of_block (i := 1) HB3.out (v := .slice a3 len3 cap3) rfl
  have cB3_2 := cell_of_block (i := 2) HB3.out (v := .int .i64 r3) rfl
  have cgw_0 := cell_of_block (i := 0) Hgw.out (v := .int .i64 V') rfl
  have cgw_1 := cell_of_block (i := 1) Hgw.out (v := .slice aw ms'.length cw) rfl
  have cgw_2 := cell_of_block (i := 2) Hgw.out (v := .int .i64 R') rfl
  have cgx1_0 := cell_of_block (i := 0) Hgx1.out (v := .int .i64 V1) rfl
  have cgx1_1 := cell_of_block (i := 1) Hgx1.out (v := .slice (some ⟨g1, 0, none⟩) len1 len1) rfl
  have cgx1_2 := cell_of_block (i := 2) Hgx1.out (v := .int .i64 r1) rfl
  have cgx2_0 := cell_of_block (i := 0) Hgx2.out (v := .int .i64 V2) rfl
  have cgx2_1 := cell_of_block (i := 1) Hgx2.out (v := .slice (some ⟨g2, 0, none⟩) len2 len2) rfl
  have cgx2_2 := cell_of_block (i := 2) Hgx2.out (v := .int .i64 r2) rfl
  have cgx3_0 := cell_of_block (i := 0) Hgx3.out (v := .int .i64 V3) rfl
  have cgx3_1 := cell_of_block (i := 1) Hgx3.out (v := .slice (some ⟨g3, 0, none⟩) len3 len3) rfl
  have cgx3_2 := cell_of_block (i := 2) Hgx3.out (v := .int .i64 r3) rfl
  have cgg_0 := cell_of_block (i := 0) Hgg.out (v := .int .i64 V') rfl
  have cgg_1 := cell_of_block (i := 1) Hgg.out (v := .slice ag ms'.length cg) rfl
  have cgg_2 := cell_of_block (i := 2) Hgg.out (v := .int .i64 R') rfl
  go_upto_region 20 with fail
  refine wp_region_held_drew (S := (fun w' => w'.cell? ⟨W.heap.size + 1, 0, none⟩ = some (.int .i64 V2) ∧ w'.cell? ⟨W.heap.size + 1, 1, none⟩ = some (.slice a2 len2 cap2) ∧ w'.cell? ⟨W.heap.size + 1, 2, none⟩ = some (.int .i64 r2) ∧ w'.cell? ⟨gx2, 0, none⟩ = some (.int .i64 V2) ∧ w'.cell? ⟨gx2, 1, none⟩ = some (.slice (some ⟨g2, 0, none⟩) len2 len2) ∧ w'.cell? ⟨gx2, 2, none⟩ = some (.int .i64 r2))) (by kernel_rfl) ?_ (fun hHeld => ?_)
  · first | exact ⟨cB2_0, cB2_1, cB2_2, cgx2_0, cgx2_1, cgx2_2⟩ | exact ⟨keepc HQ8.out lB2 cB2_0, keepc HQ8.out lB2 cB2_1, keepc HQ8.out lB2 cB2_2, keepc HQ8.out lgx2 cgx2_0, keepc HQ8.out lgx2 cgx2_1, keepc HQ8.out lgx2 cgx2_2⟩ | exact ⟨keepc HQ7.out lB2 cB2_0, keepc HQ7.out lB2 cB2_1, keepc HQ7.out lB2 cB2_2, keepc HQ7.out lgx2 cgx2_0, keepc HQ7.out lgx2 cgx2_1, keepc HQ7.out lgx2 cgx2_2⟩
  refine tL 0 (some 72) ?_
  refine tL 1 (some 73) ?_
  refine wpAnyH_ready (rs := [2]) (by kernel_rfl) (by simp) ?_
  refine AllReadyH.cons (o := _) rfl (fun K hK => ?_) AllReadyH.nil
  go_simp
  refine (c_toBdd (B := W.heap.size) V2 r2 w20.drew HB.out.size ((HN2.out.below HB.out).below (Below.refl _ w20).drew) hlen2).mono ?_
  rintro e wt ⟨h, rfl, hd, -, -, hq⟩
  have HD := Go.Lib.hid hd
  have HQ7 := Go.Lib.hid (show Below w20.heap.size w20 wt from ⟨hq.os, hq.tape, hq.output, hq.size, hq.block⟩)
  clear hd hq
  (try go_wp2_with fail)
  (try clear hHeld)
  refine hK.out _ _ ?_ (fun hHeld => ?_)
  · first | exact ⟨cB2_0, cB2_1, cB2_2, cgx2_0, cgx2_1, cgx2_2⟩ | exact ⟨keepc HQ8.out lB2 cB2_0, keepc HQ8.out lB2 cB2_1, keepc HQ8.out lB2 cB2_2, keepc HQ8.out lgx2 cgx2_0, keepc HQ8.out lgx2 cgx2_1, keepc HQ8.out lgx2 cgx2_2⟩ | exact ⟨keepc HQ7.out lB2 cB2_0, keepc HQ7.out lB2 cB2_1, keepc HQ7.out lB2 cB2_2, keepc HQ7.out lgx2 cgx2_0, keepc HQ7.out lgx2 cgx2_1, keepc HQ7.out lgx2 cgx2_2⟩
  clear hK K
  (try simp only [Act.put, List.setIfInBounds_toArray, List.set_cons_zero, List.set_cons_succ])
  refine wpAnyH_ready (rs := [3]) (by kernel_rfl) (by simp) ?_
  refine AllReadyH.cons (o := _) rfl (fun K hK => ?_) AllReadyH.nil
  go_simp
  refine (c_eqBdd (B := wt.heap.size) V2 r2 wt (Nat.le_refl _) ((HC2.out.below HQ7.out).mono HQ7.out.size) HD.out).mono ?_
  rintro e we ⟨rfl, hq⟩
  have HQ8 := Go.Lib.hid (HQ7.out.trans (hq.mono HQ7.out.size))
  clear hq
  (try go_wp2_with fail)
  (try clear hHeld)
  refine hK.out _ _ ?_ (fun hHeld => ?_)
  · first | exact ⟨cB2_0, cB2_1, cB2_2, cgx2_0, cgx2_1, cgx2_2⟩ | exact ⟨keepc HQ8.out lB2 cB2_0, keepc HQ8.out lB2 cB2_1, keepc HQ8.out lB2 cB2_2, keepc HQ8.out lgx2 cgx2_0, keepc HQ8.out lgx2 cgx2_1, keepc HQ8.out lgx2 cgx2_2⟩ | exact ⟨keepc HQ7.out lB2 cB2_0, keepc HQ7.out lB2 cB2_1, keepc HQ7.out lB2 cB2_2, keepc HQ7.out lgx2 cgx2_0, keepc HQ7.out lgx2 cgx2_1, keepc HQ7.out lgx2 cgx2_2⟩
  clear hK K
  (try simp only [Act.put, List.setIfInBounds_toArray, List.set_cons_zero, List.set_cons_succ])
  refine tL 4 (some 76) ?_
  refine wpAnyH_done (by kernel_rfl) ?_ _
  clear hHeld
  go_upto_region 22 with fail
  refine code_gen (R := fun wb => Below w20.heap.size w20 wb) (by first | exact HQ8.out | exact HQ8.out.drew | go_grown) ?_
  clear HQ7 HQ8 HD
  rintro w21 hq
  replace HB1 := Go.Lib.hid ((hq.block _ lB1).trans HB1.out)
  replace lB1 := Nat.lt_of_lt_of_le lB1 hq.size
  replace HB2 := Go.Lib.hid ((hq.block _ lB2).trans HB2.out)
  replace lB2 := Nat.lt_of_lt_of_le lB2 hq.size
  replace HB3 := Go.Lib.hid ((hq.block _ lB3).trans HB3.out)
  replace lB3 := Nat.lt_of_lt_of_le lB3 hq.size
  replace Hgw := Go.Lib.hid ((hq.block _ lgw).trans Hgw.out)
  replace lgw := Nat.lt_of_lt_of_le lgw hq.size
  replace Hgx1 := Go.Lib.hid ((hq.block _ lgx1).trans Hgx1.out)
  replace lgx1 := Nat.lt_of_lt_of_le lgx1 hq.size
  replace Hgx2 := Go.Lib.hid ((hq.block _ lgx2).trans Hgx2.out)
  replace lgx2 := Nat.lt_of_lt_of_le lgx2 hq.size
  replace Hgx3 := Go.Lib.hid ((hq.block _ lgx3).trans Hgx3.out)
  replace lgx3 := Nat.lt_of_lt_of_le lgx3 hq.size
  replace Hgg := Go.Lib.hid ((hq.block _ lgg).trans Hgg.out)
  replace lgg := Nat.lt_of_lt_of_le lgg hq.size
  replace GL := Go.Lib.hid (GL.out.below hq)
  replace HOW := Go.Lib.hid (HOW.out.below hq)
  replace HC1 := Go.Lib.hid ((HC1.out.below hq).mono hq.size)
  replace HRM1 := Go.Lib.hid (HRM1.out.below hq)
  replace HC2 := Go.Lib.hid ((HC2.out.below hq).mono hq.size)
  replace HRM2 := Go.Lib.hid (HRM2.out.below hq)
  replace HC3 := Go.Lib.hid ((HC3.out.below hq).mono hq.size)
  replace HRM3 := Go.Lib.hid (HRM3.out.below hq)
  replace HOG := Go.Lib.hid (HOG.out.below hq)
  replace HRG := Go.Lib.hid (HRG.out.below hq)
  replace HB := Go.Lib.hid (HB.out.trans (hq.mono HB.out.size))
  clear cB1_0 cB1_1 cB1_2 cB2_0 cB2_1 cB2_2 cB3_0 cB3_1 cB3_2 cgw_0 cgw_1 cgw_2 cgx1_0 cgx1_1 cgx1_2 cgx2_0 cgx2_1 cgx2_2 cgx3_0 cgx3_1 cgx3_2 cgg_0 cgg_1 cgg_2
  clear hq
  have cB1_0 := cell_of_block (i := 0) HB1.out (v := .int .i64 V1) rfl
  have cB1_1 := cell_of_block (i := 1) HB1.out (v := .slice a1 len1 cap1) rfl
  have cB1_2 := cell_of_block (i := 2) HB1.out (v := .int .i64 r1) rfl
  have cB2_0 := cell_of_block (i := 0) HB2.out (v := .int .i64 V2) rfl
  have cB2_1 := cell_of_block (i := 1) HB2.out (v := .slice a2 len2 cap2) rfl
  have cB2_2 := cell_of_block (i := 2) HB2.out (v := .int .i64 r2) rfl
  have cB3_0 := cell_of_block (i := 0) HB3.out (v := .int .i64 V3) rfl
  have cB3_1 := cell_of_block (i := 1) HB3.out (v := .slice a3 len3 cap3) rfl
  have cB3_2 := cell_of_block (i := 2) HB3.out (v := .int .i64 r3) rfl
  have cgw_0 := cell_of_block (i := 0) Hgw.out (v := .int .i64 V') rfl
  have cgw_1 := cell_of_block (i := 1) Hgw.out (v := .slice aw ms'.length cw) rfl
  have cgw_2 := cell_of_block (i := 2) Hgw.out (v := .int .i64 R') rfl
  have cgx1_0 := cell_of_block (i := 0) Hgx1.out (v := .int .i64 V1) rfl
  have cgx1_1 := cell_of_block (i := 1) Hgx1.out (v := .slice (some ⟨g1, 0, none⟩) len1 len1) rfl
  have cgx1_2 := cell_of_block (i := 2) Hgx1.out (v := .int .i64 r1) rfl
  have cgx2_0 := cell_of_block (i := 0) Hgx2.out (v := .int .i64 V2) rfl
  have cgx2_1 := cell_of_block (i := 1) Hgx2.out (v := .slice (some ⟨g2, 0, none⟩) len2 len2) rfl
  have cgx2_2 := cell_of_block (i := 2) Hgx2.out (v := .int .i64 r2) rfl
  have cgx3_0 := cell_of_block (i := 0) Hgx3.out (v := .int .i64 V3) rfl
  have cgx3_1 := cell_of_block (i := 1) Hgx3.out (v := .slice (some ⟨g3, 0, none⟩) len3 len3) rfl
  have cgx3_2 := cell_of_block (i := 2) Hgx3.out (v := .int .i64 r3) rfl
  have cgg_0 := cell_of_block (i := 0) Hgg.out (v := .int .i64 V') rfl
  have cgg_1 := cell_of_block (i := 1) Hgg.out (v := .slice ag ms'.length cg) rfl
  have cgg_2 := cell_of_block (i := 2) Hgg.out (v := .int .i64 R') rfl
  go_upto_region 22 with fail
  refine wp_region_held_drew (S := (fun w' => w'.cell? ⟨W.heap.size + 2, 0, none⟩ = some (.int .i64 V3) ∧ w'.cell? ⟨W.heap.size + 2, 1, none⟩ = some (.slice a3 len3 cap3) ∧ w'.cell? ⟨W.heap.size + 2, 2, none⟩ = some (.int .i64 r3) ∧ w'.cell? ⟨gx3, 0, none⟩ = some (.int .i64 V3) ∧ w'.cell? ⟨gx3, 1, none⟩ = some (.slice (some ⟨g3, 0, none⟩) len3 len3) ∧ w'.cell? ⟨gx3, 2, none⟩ = some (.int .i64 r3))) (by kernel_rfl) ?_ (fun hHeld => ?_)
  · first | exact ⟨cB3_0, cB3_1, cB3_2, cgx3_0, cgx3_1, cgx3_2⟩ | exact ⟨keepc HQ8.out lB3 cB3_0, keepc HQ8.out lB3 cB3_1, keepc HQ8.out lB3 cB3_2, keepc HQ8.out lgx3 cgx3_0, keepc HQ8.out lgx3 cgx3_1, keepc HQ8.out lgx3 cgx3_2⟩ | exact ⟨keepc HQ7.out lB3 cB3_0, keepc HQ7.out lB3 cB3_1, keepc HQ7.out lB3 cB3_2, keepc HQ7.out lgx3 cgx3_0, keepc HQ7.out lgx3 cgx3_1, keepc HQ7.out lgx3 cgx3_2⟩
  refine tL 0 (some 77) ?_
  refine tL 1 (some 78) ?_
  refine wpAnyH_ready (rs := [2]) (by kernel_rfl) (by simp) ?_
  refine AllReadyH.cons (o := _) rfl (fun K hK => ?_) AllReadyH.nil
  go_simp
  refine (c_toBdd (B := W.heap.size) V3 r3 w21.drew HB.out.size ((HN3.out.below HB.out).below (Below.refl _ w21).drew) hlen3).mono ?_
  rintro e wt ⟨h, rfl, hd, -, -, hq⟩
  have HD := Go.Lib.hid hd
  have HQ7 := Go.Lib.hid (show Below w21.heap.size w21 wt from ⟨hq.os, hq.tape, hq.output, hq.size, hq.block⟩)
  clear hd hq
  (try go_wp2_with fail)
  (try clear hHeld)
  refine hK.out _ _ ?_ (fun hHeld => ?_)
  · first | exact ⟨cB3_0, cB3_1, cB3_2, cgx3_0, cgx3_1, cgx3_2⟩ | exact ⟨keepc HQ8.out lB3 cB3_0, keepc HQ8.out lB3 cB3_1, keepc HQ8.out lB3 cB3_2, keepc HQ8.out lgx3 cgx3_0, keepc HQ8.out lgx3 cgx3_1, keepc HQ8.out lgx3 cgx3_2⟩ | exact ⟨keepc HQ7.out lB3 cB3_0, keepc HQ7.out lB3 cB3_1, keepc HQ7.out lB3 cB3_2, keepc HQ7.out lgx3 cgx3_0, keepc HQ7.out lgx3 cgx3_1, keepc HQ7.out lgx3 cgx3_2⟩
  clear hK K
  (try simp only [Act.put, List.setIfInBounds_toArray, List.set_cons_zero, List.set_cons_succ])
  refine wpAnyH_ready (rs := [3]) (by kernel_rfl) (by simp) ?_
  refine AllReadyH.cons (o := _) rfl (fun K hK => ?_) AllReadyH.nil
  go_simp
  refine (c_eqBdd (B := wt.heap.size) V3 r3 wt (Nat.le_refl _) ((HC3.out.below HQ7.out).mono HQ7.out.size) HD.out).mono ?_
  rintro e we ⟨rfl, hq⟩
  have HQ8 := Go.Lib.hid (HQ7.out.trans (hq.mono HQ7.out.size))
  clear hq
  (try go_wp2_with fail)
  (try clear hHeld)
  refine hK.out _ _ ?_ (fun hHeld => ?_)
  · first | exact ⟨cB3_0, cB3_1, cB3_2, cgx3_0, cgx3_1, cgx3_2⟩ | exact ⟨keepc HQ8.out lB3 cB3_0, keepc HQ8.out lB3 cB3_1, keepc HQ8.out lB3 cB3_2, keepc HQ8.out lgx3 cgx3_0, keepc HQ8.out lgx3 cgx3_1, keepc HQ8.out lgx3 cgx3_2⟩ | exact ⟨keepc HQ7.out lB3 cB3_0, keepc HQ7.out lB3 cB3_1, keepc HQ7.out lB3 cB3_2, keepc HQ7.out lgx3 cgx3_0, keepc HQ7.out lgx3 cgx3_1, keepc HQ7.out lgx3 cgx3_2⟩
  clear hK K
  (try simp only [Act.put, List.setIfInBounds_toArray, List.set_cons_zero, List.set_cons_succ])
  refine tL 4 (some 81) ?_
  refine wpAnyH_done (by kernel_rfl) ?_ _
  clear hHeld
  go_upto_region 25 with fail
  refine code_gen (R := fun wb => Below w21.heap.size w21 wb) (by first | exact HQ8.out | exact HQ8.out.drew | go_grown) ?_
  clear HQ7 HQ8 HD
  rintro w22 hq
  replace HB1 := Go.Lib.hid ((hq.block _ lB1).trans HB1.out)
  replace lB1 := Nat.lt_of_lt_of_le lB1 hq.size
  replace HB2 := Go.Lib.hid ((hq.block _ lB2).trans HB2.out)
  replace lB2 := Nat.lt_of_lt_of_le lB2 hq.size
  replace HB3 := Go.Lib.hid ((hq.block _ lB3).trans HB3.out)
  replace lB3 := Nat.lt_of_lt_of_le lB3 hq.size
  replace Hgw := Go.Lib.hid ((hq.block _ lgw).trans Hgw.out)
  replace lgw := Nat.lt_of_lt_of_le lgw hq.size
  replace Hgx1 := Go.Lib.hid ((hq.block _ lgx1).trans Hgx1.out)
  replace lgx1 := Nat.lt_of_lt_of_le lgx1 hq.size
  replace Hgx2 := Go.Lib.hid ((hq.block _ lgx2).trans Hgx2.out)
  replace lgx2 := Nat.lt_of_lt_of_le lgx2 hq.size
  replace Hgx3 := Go.Lib.hid ((hq.block _ lgx3).trans Hgx3.out)
  replace lgx3 := Nat.lt_of_lt_of_le lgx3 hq.size
  replace Hgg := Go.Lib.hid ((hq.block _ lgg).trans Hgg.out)
  replace lgg := Nat.lt_of_lt_of_le lgg hq.size
  replace GL := Go.Lib.hid (GL.out.below hq)
  replace HOW := Go.Lib.hid (HOW.out.below hq)
  replace HC1 := Go.Lib.hid ((HC1.out.below hq).mono hq.size)
  replace HRM1 := Go.Lib.hid (HRM1.out.below hq)
  replace HC2 := Go.Lib.hid ((HC2.out.below hq).mono hq.size)
  replace HRM2 := Go.Lib.hid (HRM2.out.below hq)
  replace HC3 := Go.Lib.hid ((HC3.out.below hq).mono hq.size)
  replace HRM3 := Go.Lib.hid (HRM3.out.below hq)
  replace HOG := Go.Lib.hid (HOG.out.below hq)
  replace HRG := Go.Lib.hid (HRG.out.below hq)
  replace HB := Go.Lib.hid (HB.out.trans (hq.mono HB.out.size))
  clear cB1_0 cB1_1 cB1_2 cB2_0 cB2_1 cB2_2 cB3_0 cB3_1 cB3_2 cgw_0 cgw_1 cgw_2 cgx1_0 cgx1_1 cgx1_2 cgx2_0 cgx2_1 cgx2_2 cgx3_0 cgx3_1 cgx3_2 cgg_0 cgg_1 cgg_2
  clear hq
  clear HC1 HC2 HC3
  have cB1_0 := cell_of_block (i := 0) HB1.out (v := .int .i64 V1) rfl
  have cB1_1 := cell_of_block (i := 1) HB1.out (v := .slice a1 len1 cap1) rfl
  have cB1_2 := cell_of_block (i := 2) HB1.out (v := .int .i64 r1) rfl
  have cB2_0 := cell_of_block (i := 0) HB2.out (v := .int .i64 V2) rfl
  have cB2_1 := cell_of_block (i := 1) HB2.out (v := .slice a2 len2 cap2) rfl
  have cB2_2 := cell_of_block (i := 2) HB2.out (v := .int .i64 r2) rfl
  have cB3_0 := cell_of_block (i := 0) HB3.out (v := .int .i64 V3) rfl
  have cB3_1 := cell_of_block (i := 1) HB3.out (v := .slice a3 len3 cap3) rfl
  have cB3_2 := cell_of_block (i := 2) HB3.out (v := .int .i64 r3) rfl
  have cgw_0 := cell_of_block (i := 0) Hgw.out (v := .int .i64 V') rfl
  have cgw_1 := cell_of_block (i := 1) Hgw.out (v := .slice aw ms'.length cw) rfl
  have cgw_2 := cell_of_block (i := 2) Hgw.out (v := .int .i64 R') rfl
  have cgx1_0 := cell_of_block (i := 0) Hgx1.out (v := .int .i64 V1) rfl
  have cgx1_1 := cell_of_block (i := 1) Hgx1.out (v := .slice (some ⟨g1, 0, none⟩) len1 len1) rfl
  have cgx1_2 := cell_of_block (i := 2) Hgx1.out (v := .int .i64 r1) rfl
  have cgx2_0 := cell_of_block (i := 0) Hgx2.out (v := .int .i64 V2) rfl
  have cgx2_1 := cell_of_block (i := 1) Hgx2.out (v := .slice (some ⟨g2, 0, none⟩) len2 len2) rfl
  have cgx2_2 := cell_of_block (i := 2) Hgx2.out (v := .int .i64 r2) rfl
  have cgx3_0 := cell_of_block (i := 0) Hgx3.out (v := .int .i64 V3) rfl
  have cgx3_1 := cell_of_block (i := 1) Hgx3.out (v := .slice (some ⟨g3, 0, none⟩) len3 len3) rfl
  have cgx3_2 := cell_of_block (i := 2) Hgx3.out (v := .int .i64 r3) rfl
  have cgg_0 := cell_of_block (i := 0) Hgg.out (v := .int .i64 V') rfl
  have cgg_1 := cell_of_block (i := 1) Hgg.out (v := .slice ag ms'.length cg) rfl
  have cgg_2 := cell_of_block (i := 2) Hgg.out (v := .int .i64 R') rfl
  go_wp2_with fail
  refine (c_markBdd (T := fun b => b = g1) rfl V1 r1 (1) (by omega) (by omega) hlen1 w22 HRM1.out).mono ?_
  rintro e w23 ⟨rfl, ht, -, -⟩
  replace HB1 := Go.Lib.hid ((ht.block _ lB1 (fun e => by have e1 : W.heap.size = g1 := e; omega)).trans HB1.out)
  replace lB1 := Nat.lt_of_lt_of_le lB1 ht.size
  replace HB2 := Go.Lib.hid ((ht.block _ lB2 (fun e => by have e1 : W.heap.size + 1 = g1 := e; omega)).trans HB2.out)
  replace lB2 := Nat.lt_of_lt_of_le lB2 ht.size
  replace HB3 := Go.Lib.hid ((ht.block _ lB3 (fun e => by have e1 : W.heap.size + 2 = g1 := e; omega)).trans HB3.out)
  replace lB3 := Nat.lt_of_lt_of_le lB3 ht.size
  replace Hgw := Go.Lib.hid ((ht.block _ lgw (fun e => by have e1 : gw = g1 := e; omega)).trans Hgw.out)
  replace lgw := Nat.lt_of_lt_of_le lgw ht.size
  replace Hgx1 := Go.Lib.hid ((ht.block _ lgx1 (fun e => by have e1 : gx1 = g1 := e; omega)).trans Hgx1.out)
  replace lgx1 := Nat.lt_of_lt_of_le lgx1 ht.size
  replace Hgx2 := Go.Lib.hid ((ht.block _ lgx2 (fun e => by have e1 : gx2 = g1 := e; omega)).trans Hgx2.out)
  replace lgx2 := Nat.lt_of_lt_of_le lgx2 ht.size
  replace Hgx3 := Go.Lib.hid ((ht.block _ lgx3 (fun e => by have e1 : gx3 = g1 := e; omega)).trans Hgx3.out)
  replace lgx3 := Nat.lt_of_lt_of_le lgx3 ht.size
  replace Hgg := Go.Lib.hid ((ht.block _ lgg (fun e => by have e1 : gg = g1 := e; omega)).trans Hgg.out)
  replace lgg := Nat.lt_of_lt_of_le lgg ht.size
  replace GL := Go.Lib.hid (GL.out.touch ht (fun e => by have e1 : 0 = g1 := e; omega))
  replace HOW := Go.Lib.hid (HOW.out.touch ht (fun y _ _ hy e => by have e1 : y = g1 := e; have := HVW.out y hy; omega))
  replace HRM2 := Go.Lib.hid (HRM2.out.touch ht (fun e => by have e1 : g2 = g1 := e; omega))
  replace HRM3 := Go.Lib.hid (HRM3.out.touch ht (fun e => by have e1 : g3 = g1 := e; omega))
  replace HOG := Go.Lib.hid (HOG.out.touch ht (fun y hy _ hy2 e => by have e1 : y = g1 := e; omega))
  replace HRG := Go.Lib.hid (HRG.out.touch ht)
  replace HB := Go.Lib.hid (HB.out.trans (ht.belowAt (B := W.heap.size) HB.out.size (fun b hb => by have e1 : b = g1 := hb; omega)))
  clear cB1_0 cB1_1 cB1_2 cB2_0 cB2_1 cB2_2 cB3_0 cB3_1 cB3_2 cgw_0 cgw_1 cgw_2 cgx1_0 cgx1_1 cgx1_2 cgx2_0 cgx2_1 cgx2_2 cgx3_0 cgx3_1 cgx3_2 cgg_0 cgg_1 cgg_2
  clear ht HRM1
  have cB1_0 := cell_of_block (i := 0) HB1.out (v := .int .i64 V1) rfl
  have cB1_1 := cell_of_block (i := 1) HB1.out (v := .slice a1 len1 cap1) rfl
  have cB1_2 := cell_of_block (i := 2) HB1.out (v := .int .i64 r1) rfl
  have cB2_0 := cell_of_block (i := 0) HB2.out (v := .int .i64 V2) rfl
  have cB2_1 := cell_of_block (i := 1) HB2.out (v := .slice a2 len2 cap2) rfl
  have cB2_2 := cell_of_block (i := 2) HB2.out (v := .int .i64 r2) rfl
  have cB3_0 := cell_of_block (i := 0) HB3.out (v := .int .i64 V3) rfl
  have cB3_1 := cell_of_block (i := 1) HB3.out (v := .slice a3 len3 cap3) rfl
  have cB3_2 := cell_of_block (i := 2) HB3.out (v := .int .i64 r3) rfl
  have cgw_0 := cell_of_block (i := 0) Hgw.out (v := .int .i64 V') rfl
  have cgw_1 := cell_of_block (i := 1) Hgw.out (v := .slice aw ms'.length cw) rfl
  have cgw_2 := cell_of_block (i := 2) Hgw.out (v := .int .i64 R') rfl
  have cgx1_0 := cell_of_block (i := 0) Hgx1.out (v := .int .i64 V1) rfl
  have cgx1_1 := cell_of_block (i := 1) Hgx1.out (v := .slice (some ⟨g1, 0, none⟩) len1 len1) rfl
  have cgx1_2 := cell_of_block (i := 2) Hgx1.out (v := .int .i64 r1) rfl
  have cgx2_0 := cell_of_block (i := 0) Hgx2.out (v := .int .i64 V2) rfl
  have cgx2_1 := cell_of_block (i := 1) Hgx2.out (v := .slice (some ⟨g2, 0, none⟩) len2 len2) rfl
  have cgx2_2 := cell_of_block (i := 2) Hgx2.out (v := .int .i64 r2) rfl
  have cgx3_0 := cell_of_block (i := 0) Hgx3.out (v := .int .i64 V3) rfl
  have cgx3_1 := cell_of_block (i := 1) Hgx3.out (v := .slice (some ⟨g3, 0, none⟩) len3 len3) rfl
  have cgx3_2 := cell_of_block (i := 2) Hgx3.out (v := .int .i64 r3) rfl
  have cgg_0 := cell_of_block (i := 0) Hgg.out (v := .int .i64 V') rfl
  have cgg_1 := cell_of_block (i := 1) Hgg.out (v := .slice ag ms'.length cg) rfl
  have cgg_2 := cell_of_block (i := 2) Hgg.out (v := .int .i64 R') rfl
  go_wp2_with fail
  refine (c_markBdd (T := fun b => b = g2) rfl V2 r2 (1 + 3 * (len1 : Int)) (by omega) (by omega) hlen2 w23 HRM2.out).mono ?_
  rintro e w24 ⟨rfl, ht, -, -⟩
  replace HB1 := Go.Lib.hid ((ht.block _ lB1 (fun e => by have e1 : W.heap.size = g2 := e; omega)).trans HB1.out)
  replace lB1 := Nat.lt_of_lt_of_le lB1 ht.size
  replace HB2 := Go.Lib.hid ((ht.block _ lB2 (fun e => by have e1 : W.heap.size + 1 = g2 := e; omega)).trans HB2.out)
  replace lB2 := Nat.lt_of_lt_of_le lB2 ht.size
  replace HB3 := Go.Lib.hid ((ht.block _ lB3 (fun e => by have e1 : W.heap.size + 2 = g2 := e; omega)).trans HB3.out)
  replace lB3 := Nat.lt_of_lt_of_le lB3 ht.size
  replace Hgw := Go.Lib.hid ((ht.block _ lgw (fun e => by have e1 : gw = g2 := e; omega)).trans Hgw.out)
  replace lgw := Nat.lt_of_lt_of_le lgw ht.size
  replace Hgx1 := Go.Lib.hid ((ht.block _ lgx1 (fun e => by have e1 : gx1 = g2 := e; omega)).trans Hgx1.out)
  replace lgx1 := Nat.lt_of_lt_of_le lgx1 ht.size
  replace Hgx2 := Go.Lib.hid ((ht.block _ lgx2 (fun e => by have e1 : gx2 = g2 := e; omega)).trans Hgx2.out)
  replace lgx2 := Nat.lt_of_lt_of_le lgx2 ht.size
  replace Hgx3 := Go.Lib.hid ((ht.block _ lgx3 (fun e => by have e1 : gx3 = g2 := e; omega)).trans Hgx3.out)
  replace lgx3 := Nat.lt_of_lt_of_le lgx3 ht.size
  replace Hgg := Go.Lib.hid ((ht.block _ lgg (fun e => by have e1 : gg = g2 := e; omega)).trans Hgg.out)
  replace lgg := Nat.lt_of_lt_of_le lgg ht.size
  replace GL := Go.Lib.hid (GL.out.touch ht (fun e => by have e1 : 0 = g2 := e; omega))
  replace HOW := Go.Lib.hid (HOW.out.touch ht (fun y _ _ hy e => by have e1 : y = g2 := e; have := HVW.out y hy; omega))
  replace HRM3 := Go.Lib.hid (HRM3.out.touch ht (fun e => by have e1 : g3 = g2 := e; omega))
  replace HOG := Go.Lib.hid (HOG.out.touch ht (fun y hy _ hy2 e => by have e1 : y = g2 := e; omega))
  replace HRG := Go.Lib.hid (HRG.out.touch ht)
  replace HB := Go.Lib.hid (HB.out.trans (ht.belowAt (B := W.heap.size) HB.out.size (fun b hb => by have e1 : b = g2 := hb; omega)))
  clear cB1_0 cB1_1 cB1_2 cB2_0 cB2_1 cB2_2 cB3_0 cB3_1 cB3_2 cgw_0 cgw_1 cgw_2 cgx1_0 cgx1_1 cgx1_2 cgx2_0 cgx2_1 cgx2_2 cgx3_0 cgx3_1 cgx3_2 cgg_0 cgg_1 cgg_2
  clear ht HRM2
  have cB1_0 := cell_of_block (i := 0) HB1.out (v := .int .i64 V1) rfl
  have cB1_1 := cell_of_block (i := 1) HB1.out (v := .slice a1 len1 cap1) rfl
  have cB1_2 := cell_of_block (i := 2) HB1.out (v := .int .i64 r1) rfl
  have cB2_0 := cell_of_block (i := 0) HB2.out (v := .int .i64 V2) rfl
  have cB2_1 := cell_of_block (i := 1) HB2.out (v := .slice a2 len2 cap2) rfl
  have cB2_2 := cell_of_block (i := 2) HB2.out (v := .int .i64 r2) rfl
  have cB3_0 := cell_of_block (i := 0) HB3.out (v := .int .i64 V3) rfl
  have cB3_1 := cell_of_block (i := 1) HB3.out (v := .slice a3 len3 cap3) rfl
  have cB3_2 := cell_of_block (i := 2) HB3.out (v := .int .i64 r3) rfl
  have cgw_0 := cell_of_block (i := 0) Hgw.out (v := .int .i64 V') rfl
  have cgw_1 := cell_of_block (i := 1) Hgw.out (v := .slice aw ms'.length cw) rfl
  have cgw_2 := cell_of_block (i := 2) Hgw.out (v := .int .i64 R') rfl
  have cgx1_0 := cell_of_block (i := 0) Hgx1.out (v := .int .i64 V1) rfl
  have cgx1_1 := cell_of_block (i := 1) Hgx1.out (v := .slice (some ⟨g1, 0, none⟩) len1 len1) rfl
  have cgx1_2 := cell_of_block (i := 2) Hgx1.out (v := .int .i64 r1) rfl
  have cgx2_0 := cell_of_block (i := 0) Hgx2.out (v := .int .i64 V2) rfl
  have cgx2_1 := cell_of_block (i := 1) Hgx2.out (v := .slice (some ⟨g2, 0, none⟩) len2 len2) rfl
  have cgx2_2 := cell_of_block (i := 2) Hgx2.out (v := .int .i64 r2) rfl
  have cgx3_0 := cell_of_block (i := 0) Hgx3.out (v := .int .i64 V3) rfl
  have cgx3_1 := cell_of_block (i := 1) Hgx3.out (v := .slice (some ⟨g3, 0, none⟩) len3 len3) rfl
  have cgx3_2 := cell_of_block (i := 2) Hgx3.out (v := .int .i64 r3) rfl
  have cgg_0 := cell_of_block (i := 0) Hgg.out (v := .int .i64 V') rfl
  have cgg_1 := cell_of_block (i := 1) Hgg.out (v := .slice ag ms'.length cg) rfl
  have cgg_2 := cell_of_block (i := 2) Hgg.out (v := .int .i64 R') rfl
  go_wp2_with fail
  refine (c_markBdd (T := fun b => b = g3) rfl V3 r3 (1 + 3 * (len1 : Int) + 3 * (len2 : Int)) (by omega) (by omega) hlen3 w24 HRM3.out).mono ?_
  rintro e w25 ⟨rfl, ht, -, -⟩
  replace HB1 := Go.Lib.hid ((ht.block _ lB1 (fun e => by have e1 : W.heap.size = g3 := e; omega)).trans HB1.out)
  replace lB1 := Nat.lt_of_lt_of_le lB1 ht.size
  replace HB2 := Go.Lib.hid ((ht.block _ lB2 (fun e => by have e1 : W.heap.size + 1 = g3 := e; omega)).trans HB2.out)
  replace lB2 := Nat.lt_of_lt_of_le lB2 ht.size
  replace HB3 := Go.Lib.hid ((ht.block _ lB3 (fun e => by have e1 : W.heap.size + 2 = g3 := e; omega)).trans HB3.out)
  replace lB3 := Nat.lt_of_lt_of_le lB3 ht.size
  replace Hgw := Go.Lib.hid ((ht.block _ lgw (fun e => by have e1 : gw = g3 := e; omega)).trans Hgw.out)
  replace lgw := Nat.lt_of_lt_of_le lgw ht.size
  replace Hgx1 := Go.Lib.hid ((ht.block _ lgx1 (fun e => by have e1 : gx1 = g3 := e; omega)).trans Hgx1.out)
  replace lgx1 := Nat.lt_of_lt_of_le lgx1 ht.size
  replace Hgx2 := Go.Lib.hid ((ht.block _ lgx2 (fun e => by have e1 : gx2 = g3 := e; omega)).trans Hgx2.out)
  replace lgx2 := Nat.lt_of_lt_of_le lgx2 ht.size
  replace Hgx3 := Go.Lib.hid ((ht.block _ lgx3 (fun e => by have e1 : gx3 = g3 := e; omega)).trans Hgx3.out)
  replace lgx3 := Nat.lt_of_lt_of_le lgx3 ht.size
  replace Hgg := Go.Lib.hid ((ht.block _ lgg (fun e => by have e1 : gg = g3 := e; omega)).trans Hgg.out)
  replace lgg := Nat.lt_of_lt_of_le lgg ht.size
  replace GL := Go.Lib.hid (GL.out.touch ht (fun e => by have e1 : 0 = g3 := e; omega))
  replace HOW := Go.Lib.hid (HOW.out.touch ht (fun y _ _ hy e => by have e1 : y = g3 := e; have := HVW.out y hy; omega))
  replace HOG := Go.Lib.hid (HOG.out.touch ht (fun y hy _ hy2 e => by have e1 : y = g3 := e; omega))
  replace HRG := Go.Lib.hid (HRG.out.touch ht)
  replace HB := Go.Lib.hid (HB.out.trans (ht.belowAt (B := W.heap.size) HB.out.size (fun b hb => by have e1 : b = g3 := hb; omega)))
  clear cB1_0 cB1_1 cB1_2 cB2_0 cB2_1 cB2_2 cB3_0 cB3_1 cB3_2 cgw_0 cgw_1 cgw_2 cgx1_0 cgx1_1 cgx1_2 cgx2_0 cgx2_1 cgx2_2 cgx3_0 cgx3_1 cgx3_2 cgg_0 cgg_1 cgg_2
  clear ht HRM3
  have hq9 : ¬ (1 + 3 * (len1 : Int) + 3 * (len2 : Int) + 3 * (len3 : Int)) < 0 := by omega
  have cB1_0 := cell_of_block (i := 0) HB1.out (v := .int .i64 V1) rfl
  have cB1_1 := cell_of_block (i := 1) HB1.out (v := .slice a1 len1 cap1) rfl
  have cB1_2 := cell_of_block (i := 2) HB1.out (v := .int .i64 r1) rfl
  have cB2_0 := cell_of_block (i := 0) HB2.out (v := .int .i64 V2) rfl
  have cB2_1 := cell_of_block (i := 1) HB2.out (v := .slice a2 len2 cap2) rfl
  have cB2_2 := cell_of_block (i := 2) HB2.out (v := .int .i64 r2) rfl
  have cB3_0 := cell_of_block (i := 0) HB3.out (v := .int .i64 V3) rfl
  have cB3_1 := cell_of_block (i := 1) HB3.out (v := .slice a3 len3 cap3) rfl
  have cB3_2 := cell_of_block (i := 2) HB3.out (v := .int .i64 r3) rfl
  have cgw_0 := cell_of_block (i := 0) Hgw.out (v := .int .i64 V') rfl
  have cgw_1 := cell_of_block (i := 1) Hgw.out (v := .slice aw ms'.length cw) rfl
  have cgw_2 := cell_of_block (i := 2) Hgw.out (v := .int .i64 R') rfl
  have cgx1_0 := cell_of_block (i := 0) Hgx1.out (v := .int .i64 V1) rfl
  have cgx1_1 := cell_of_block (i := 1) Hgx1.out (v := .slice (some ⟨g1, 0, none⟩) len1 len1) rfl
  have cgx1_2 := cell_of_block (i := 2) Hgx1.out (v := .int .i64 r1) rfl
  have cgx2_0 := cell_of_block (i := 0) Hgx2.out (v := .int .i64 V2) rfl
  have cgx2_1 := cell_of_block (i := 1) Hgx2.out (v := .slice (some ⟨g2, 0, none⟩) len2 len2) rfl
  have cgx2_2 := cell_of_block (i := 2) Hgx2.out (v := .int .i64 r2) rfl
  have cgx3_0 := cell_of_block (i := 0) Hgx3.out (v := .int .i64 V3) rfl
  have cgx3_1 := cell_of_block (i := 1) Hgx3.out (v := .slice (some ⟨g3, 0, none⟩) len3 len3) rfl
  have cgx3_2 := cell_of_block (i := 2) Hgx3.out (v := .int .i64 r3) rfl
  have cgg_0 := cell_of_block (i := 0) Hgg.out (v := .int .i64 V') rfl
  have cgg_1 := cell_of_block (i := 1) Hgg.out (v := .slice ag ms'.length cg) rfl
  have cgg_2 := cell_of_block (i := 2) Hgg.out (v := .int .i64 R') rfl
  go_wp2_with fail
  refine (c_eqBdd (B := w25.heap.size) V' R' w25 (Nat.le_refl _) (HOG.out.bns rfl) (HOW.out.bns rfl)).mono ?_
  rintro e w26 ⟨rfl, hq⟩
  replace HB1 := Go.Lib.hid ((hq.block _ lB1).trans HB1.out)
  replace lB1 := Nat.lt_of_lt_of_le lB1 hq.size
  replace HB2 := Go.Lib.hid ((hq.block _ lB2).trans HB2.out)
  replace lB2 := Nat.lt_of_lt_of_le lB2 hq.size
  replace HB3 := Go.Lib.hid ((hq.block _ lB3).trans HB3.out)
  replace lB3 := Nat.lt_of_lt_of_le lB3 hq.size
  replace Hgw := Go.Lib.hid ((hq.block _ lgw).trans Hgw.out)
  replace lgw := Nat.lt_of_lt_of_le lgw hq.size
  replace Hgx1 := Go.Lib.hid ((hq.block _ lgx1).trans Hgx1.out)
  replace lgx1 := Nat.lt_of_lt_of_le lgx1 hq.size
  replace Hgx2 := Go.Lib.hid ((hq.block _ lgx2).trans Hgx2.out)
  replace lgx2 := Nat.lt_of_lt_of_le lgx2 hq.size
  replace Hgx3 := Go.Lib.hid ((hq.block _ lgx3).trans Hgx3.out)
  replace lgx3 := Nat.lt_of_lt_of_le lgx3 hq.size
  replace Hgg := Go.Lib.hid ((hq.block _ lgg).trans Hgg.out)
  replace lgg := Nat.lt_of_lt_of_le lgg hq.size
  replace GL := Go.Lib.hid (GL.out.below hq)
  replace HOW := Go.Lib.hid (HOW.out.below hq)
  replace HOG := Go.Lib.hid (HOG.out.below hq)
  replace HRG := Go.Lib.hid (HRG.out.below hq)
  replace HB := Go.Lib.hid (HB.out.trans (hq.mono HB.out.size))
  clear cB1_0 cB1_1 cB1_2 cB2_0 cB2_1 cB2_2 cB3_0 cB3_1 cB3_2 cgw_0 cgw_1 cgw_2 cgx1_0 cgx1_1 cgx1_2 cgx2_0 cgx2_1 cgx2_2 cgx3_0 cgx3_1 cgx3_2 cgg_0 cgg_1 cgg_2
  clear hq
  clear HOG
  have cB1_0 := cell_of_block (i := 0) HB1.out (v := .int .i64 V1) rfl
  have cB1_1 := cell_of_block (i := 1) HB1.out (v := .slice a1 len1 cap1) rfl
  have cB1_2 := cell_of_block (i := 2) HB1.out (v := .int .i64 r1) rfl
  have cB2_0 := cell_of_block (i := 0) HB2.out (v := .int .i64 V2) rfl
  have cB2_1 := cell_of_block (i := 1) HB2.out (v := .slice a2 len2 cap2) rfl
  have cB2_2 := cell_of_block (i := 2) HB2.out (v := .int .i64 r2) rfl
  have cB3_0 := cell_of_block (i := 0) HB3.out (v := .int .i64 V3) rfl
  have cB3_1 := cell_of_block (i := 1) HB3.out (v := .slice a3 len3 cap3) rfl
  have cB3_2 := cell_of_block (i := 2) HB3.out (v := .int .i64 r3) rfl
  have cgw_0 := cell_of_block (i := 0) Hgw.out (v := .int .i64 V') rfl
  have cgw_1 := cell_of_block (i := 1) Hgw.out (v := .slice aw ms'.length cw) rfl
  have cgw_2 := cell_of_block (i := 2) Hgw.out (v := .int .i64 R') rfl
  have cgx1_0 := cell_of_block (i := 0) Hgx1.out (v := .int .i64 V1) rfl
  have cgx1_1 := cell_of_block (i := 1) Hgx1.out (v := .slice (some ⟨g1, 0, none⟩) len1 len1) rfl
  have cgx1_2 := cell_of_block (i := 2) Hgx1.out (v := .int .i64 r1) rfl
  have cgx2_0 := cell_of_block (i := 0) Hgx2.out (v := .int .i64 V2) rfl
  have cgx2_1 := cell_of_block (i := 1) Hgx2.out (v := .slice (some ⟨g2, 0, none⟩) len2 len2) rfl
  have cgx2_2 := cell_of_block (i := 2) Hgx2.out (v := .int .i64 r2) rfl
  have cgx3_0 := cell_of_block (i := 0) Hgx3.out (v := .int .i64 V3) rfl
  have cgx3_1 := cell_of_block (i := 1) Hgx3.out (v := .slice (some ⟨g3, 0, none⟩) len3 len3) rfl
  have cgx3_2 := cell_of_block (i := 2) Hgx3.out (v := .int .i64 r3) rfl
  have cgg_0 := cell_of_block (i := 0) Hgg.out (v := .int .i64 V') rfl
  have cgg_1 := cell_of_block (i := 1) Hgg.out (v := .slice ag ms'.length cg) rfl
  have cgg_2 := cell_of_block (i := 2) Hgg.out (v := .int .i64 R') rfl
  go_wp2_with fail
  refine (c_markBddL (T := fun b => ag = some ⟨b, 0, none⟩) V' R' hlw w26 HRG.out).mono ?_
  rintro e w27 ⟨rfl, ht, hhd⟩
  replace HB1 := Go.Lib.hid ((ht.block _ lB1 (fun e => by have h1 := HGC.out (W.heap.size) e; omega)).trans HB1.out)
  replace lB1 := Nat.lt_of_lt_of_le lB1 ht.size
  replace HB2 := Go.Lib.hid ((ht.block _ lB2 (fun e => by have h1 := HGC.out (W.heap.size + 1) e; omega)).trans HB2.out)
  replace lB2 := Nat.lt_of_lt_of_le lB2 ht.size
  replace HB3 := Go.Lib.hid ((ht.block _ lB3 (fun e => by have h1 := HGC.out (W.heap.size + 2) e; omega)).trans HB3.out)
  replace lB3 := Nat.lt_of_lt_of_le lB3 ht.size
  replace Hgw := Go.Lib.hid ((ht.block _ lgw (fun e => by have h1 := HGC.out (gw) e; omega)).trans Hgw.out)
  replace lgw := Nat.lt_of_lt_of_le lgw ht.size
  replace Hgx1 := Go.Lib.hid ((ht.block _ lgx1 (fun e => by have h1 := HGC.out (gx1) e; omega)).trans Hgx1.out)
  replace lgx1 := Nat.lt_of_lt_of_le lgx1 ht.size
  replace Hgx2 := Go.Lib.hid ((ht.block _ lgx2 (fun e => by have h1 := HGC.out (gx2) e; omega)).trans Hgx2.out)
  replace lgx2 := Nat.lt_of_lt_of_le lgx2 ht.size
  replace Hgx3 := Go.Lib.hid ((ht.block _ lgx3 (fun e => by have h1 := HGC.out (gx3) e; omega)).trans Hgx3.out)
  replace lgx3 := Nat.lt_of_lt_of_le lgx3 ht.size
  replace Hgg := Go.Lib.hid ((ht.block _ lgg (fun e => by have h1 := HGC.out (gg) e; omega)).trans Hgg.out)
  replace lgg := Nat.lt_of_lt_of_le lgg ht.size
  replace GL := Go.Lib.hid (GL.out.touch ht (fun e => by have h1 := (HGC.out 0 e).1; omega))
  replace HOW := Go.Lib.hid (HOW.out.touch ht (fun y _ _ hy e => by have h1 := (HGC.out y e).1; have h2 := HVW.out y hy; omega))
  replace HB := Go.Lib.hid (HB.out.trans (ht.belowAt (B := W.heap.size) HB.out.size (fun b hb => by have h1 := (HGC.out b hb).1; omega)))
  clear cB1_0 cB1_1 cB1_2 cB2_0 cB2_1 cB2_2 cB3_0 cB3_1 cB3_2 cgw_0 cgw_1 cgw_2 cgx1_0 cgx1_1 cgx1_2 cgx2_0 cgx2_1 cgx2_2 cgx3_0 cgx3_1 cgx3_2 cgg_0 cgg_1 cgg_2
  have HHD := Go.Lib.hid hhd
  clear ht hhd HRG
  have hp1 : ¬ (1 + 3 * (ms'.length : Int)) < 0 := by omega
  have cB1_0 := cell_of_block (i := 0) HB1.out (v := .int .i64 V1) rfl
  have cB1_1 := cell_of_block (i := 1) HB1.out (v := .slice a1 len1 cap1) rfl
  have cB1_2 := cell_of_block (i := 2) HB1.out (v := .int .i64 r1) rfl
  have cB2_0 := cell_of_block (i := 0) HB2.out (v := .int .i64 V2) rfl
  have cB2_1 := cell_of_block (i := 1) HB2.out (v := .slice a2 len2 cap2) rfl
  have cB2_2 := cell_of_block (i := 2) HB2.out (v := .int .i64 r2) rfl
  have cB3_0 := cell_of_block (i := 0) HB3.out (v := .int .i64 V3) rfl
  have cB3_1 := cell_of_block (i := 1) HB3.out (v := .slice a3 len3 cap3) rfl
  have cB3_2 := cell_of_block (i := 2) HB3.out (v := .int .i64 r3) rfl
  have cgw_0 := cell_of_block (i := 0) Hgw.out (v := .int .i64 V') rfl
  have cgw_1 := cell_of_block (i := 1) Hgw.out (v := .slice aw ms'.length cw) rfl
  have cgw_2 := cell_of_block (i := 2) Hgw.out (v := .int .i64 R') rfl
  have cgx1_0 := cell_of_block (i := 0) Hgx1.out (v := .int .i64 V1) rfl
  have cgx1_1 := cell_of_block (i := 1) Hgx1.out (v := .slice (some ⟨g1, 0, none⟩) len1 len1) rfl
  have cgx1_2 := cell_of_block (i := 2) Hgx1.out (v := .int .i64 r1) rfl
  have cgx2_0 := cell_of_block (i := 0) Hgx2.out (v := .int .i64 V2) rfl
  have cgx2_1 := cell_of_block (i := 1) Hgx2.out (v := .slice (some ⟨g2, 0, none⟩) len2 len2) rfl
  have cgx2_2 := cell_of_block (i := 2) Hgx2.out (v := .int .i64 r2) rfl
  have cgx3_0 := cell_of_block (i := 0) Hgx3.out (v := .int .i64 V3) rfl
  have cgx3_1 := cell_of_block (i := 1) Hgx3.out (v := .slice (some ⟨g3, 0, none⟩) len3 len3) rfl
  have cgx3_2 := cell_of_block (i := 2) Hgx3.out (v := .int .i64 r3) rfl
  have cgg_0 := cell_of_block (i := 0) Hgg.out (v := .int .i64 V') rfl
  have cgg_1 := cell_of_block (i := 1) Hgg.out (v := .slice ag ms'.length cg) rfl
  have cgg_2 := cell_of_block (i := 2) Hgg.out (v := .int .i64 R') rfl
  go_wp2_with fail
  refine (c_heldBddL V' R' hlw w27 HHD.out).mono ?_
  rintro e w28 ⟨rfl, hq⟩
  replace HB1 := Go.Lib.hid ((hq.block _ lB1).trans HB1.out)
  replace lB1 := Nat.lt_of_lt_of_le lB1 hq.size
  replace HB2 := Go.Lib.hid ((hq.block _ lB2).trans HB2.out)
  replace lB2 := Nat.lt_of_lt_of_le lB2 hq.size
  replace HB3 := Go.Lib.hid ((hq.block _ lB3).trans HB3.out)
  replace lB3 := Nat.lt_of_lt_of_le lB3 hq.size
  replace Hgw := Go.Lib.hid ((hq.block _ lgw).trans Hgw.out)
  replace lgw := Nat.lt_of_lt_of_le lgw hq.size
  replace Hgx1 := Go.Lib.hid ((hq.block _ lgx1).trans Hgx1.out)
  replace lgx1 := Nat.lt_of_lt_of_le lgx1 hq.size
  replace Hgx2 := Go.Lib.hid ((hq.block _ lgx2).trans Hgx2.out)
  replace lgx2 := Nat.lt_of_lt_of_le lgx2 hq.size
  replace Hgx3 := Go.Lib.hid ((hq.block _ lgx3).trans Hgx3.out)
  replace lgx3 := Nat.lt_of_lt_of_le lgx3 hq.size
  replace Hgg := Go.Lib.hid ((hq.block _ lgg).trans Hgg.out)
  replace lgg := Nat.lt_of_lt_of_le lgg hq.size
  replace GL := Go.Lib.hid (GL.out.below hq)
  replace HOW := Go.Lib.hid (HOW.out.below hq)
  replace HHD := Go.Lib.hid (HHD.out.below hq)
  replace HB := Go.Lib.hid (HB.out.trans (hq.mono HB.out.size))
  clear cB1_0 cB1_1 cB1_2 cB2_0 cB2_1 cB2_2 cB3_0 cB3_1 cB3_2 cgw_0 cgw_1 cgw_2 cgx1_0 cgx1_1 cgx1_2 cgx2_0 cgx2_1 cgx2_2 cgx3_0 cgx3_1 cgx3_2 cgg_0 cgg_1 cgg_2
  clear hq
  clear Hgx1
  clear lgx1
  clear Hgx2
  clear lgx2
  clear Hgx3
  clear lgx3
  have cB1_0 := cell_of_block (i := 0) HB1.out (v := .int .i64 V1) rfl
  have cB1_1 := cell_of_block (i := 1) HB1.out (v := .slice a1 len1 cap1) rfl
  have cB1_2 := cell_of_block (i := 2) HB1.out (v := .int .i64 r1) rfl
  have cB2_0 := cell_of_block (i := 0) HB2.out (v := .int .i64 V2) rfl
  have cB2_1 := cell_of_block (i := 1) HB2.out (v := .slice a2 len2 cap2) rfl
  have cB2_2 := cell_of_block (i := 2) HB2.out (v := .int .i64 r2) rfl
  have cB3_0 := cell_of_block (i := 0) HB3.out (v := .int .i64 V3) rfl
  have cB3_1 := cell_of_block (i := 1) HB3.out (v := .slice a3 len3 cap3) rfl
  have cB3_2 := cell_of_block (i := 2) HB3.out (v := .int .i64 r3) rfl
  have cgw_0 := cell_of_block (i := 0) Hgw.out (v := .int .i64 V') rfl
  have cgw_1 := cell_of_block (i := 1) Hgw.out (v := .slice aw ms'.length cw) rfl
  have cgw_2 := cell_of_block (i := 2) Hgw.out (v := .int .i64 R') rfl
  have cgg_0 := cell_of_block (i := 0) Hgg.out (v := .int .i64 V') rfl
  have cgg_1 := cell_of_block (i := 1) Hgg.out (v := .slice ag ms'.length cg) rfl
  have cgg_2 := cell_of_block (i := 2) Hgg.out (v := .int .i64 R') rfl
  go_upto_region 38 with fail
  go_cut [18, 19] (fun s18 s19 wx => CutW (CondR (TriP V1 ns1 r1 V2 ns2 r2 V3 ns3 r3) V1 (fun c => if evF ns1 r1 c then evF ns2 r2 c else evF ns3 r3 c)) w28 s18 s19 wx)
  case first =>
    refine wp_region_held_drew (S := (fun w' => w'.cell? ⟨W.heap.size, 0, none⟩ = some (.int .i64 V1) ∧ w'.cell? ⟨W.heap.size, 1, none⟩ = some (.slice a1 len1 cap1) ∧ w'.cell? ⟨W.heap.size, 2, none⟩ = some (.int .i64 r1) ∧ w'.cell? ⟨W.heap.size + 1, 0, none⟩ = some (.int .i64 V2) ∧ w'.cell? ⟨W.heap.size + 1, 1, none⟩ = some (.slice a2 len2 cap2) ∧ w'.cell? ⟨W.heap.size + 1, 2, none⟩ = some (.int .i64 r2) ∧ w'.cell? ⟨W.heap.size + 2, 0, none⟩ = some (.int .i64 V3) ∧ w'.cell? ⟨W.heap.size + 2, 1, none⟩ = some (.slice a3 len3 cap3) ∧ w'.cell? ⟨W.heap.size + 2, 2, none⟩ = some (.int .i64 r3))) (by kernel_rfl) ?_ (fun hHeld => ?_)
    · exact keepb3 (by go_grown) lB1 cB1_0 cB1_1 cB1_2 lB2 cB2_0 cB2_1 cB2_2 lB3 cB3_0 cB3_1 cB3_2
    refine tL 0 (some 116) ?_
    refine tL 2 (some 118) ?_
    refine tL 4 (some 120) ?_
    refine wpAnyH_ready (rs := [1, 10]) (by kernel_rfl) (by simp) ?_
    refine AllReadyH.cons (o := _) rfl (fun K hK => ?_) ?_
    · go_simp
      refine (c_toBdd (B := W.heap.size) V1 r1 _ (Nat.le_trans HB.out.size (Below.size (show Below w28.heap.size w28 _ by go_grown))) ((HN1.out.below HB.out).below (Below.mono (show Below w28.heap.size w28 _ by go_grown) HB.out.size)) hlen1).mono ?_
      rintro e x1 ⟨g1, rfl, hc, -, -, hq⟩
      (try (with_reducible have hZ := ZB.below (ZB.newD w28) hq))
      have hb1 : Below w28.heap.size w28 x1 := bstp (by go_grown) hq
      have ht1 := hb1.size
      have C1_1 := Go.Lib.hid hc
      clear hc hq
      (try go_wp2_with fail)
      (try clear hHeld)
      refine hK.out _ _ ?_ (fun hHeld => ?_)
      · exact keepb3 (by go_grown) lB1 cB1_0 cB1_1 cB1_2 lB2 cB2_0 cB2_1 cB2_2 lB3 cB3_0 cB3_1 cB3_2
      clear hK K
      (try simp only [Act.put, List.setIfInBounds_toArray, List.set_cons_zero, List.set_cons_succ])
      refine wpAnyH_ready (rs := [3, 10]) (by kernel_rfl) (by simp) ?_
      refine AllReadyH.cons (o := _) rfl (fun K hK => ?_) ?_
      · go_simp
        refine (c_toBdd (B := W.heap.size) V2 r2 _ (Nat.le_trans HB.out.size (Below.size (show Below w28.heap.size w28 _ by go_grown))) ((HN2.out.below HB.out).below (Below.mono (show Below w28.heap.size w28 _ by go_grown) HB.out.size)) hlen2).mono ?_
        rintro e x2 ⟨g2, rfl, hc, -, -, hq⟩
        (try (with_reducible have hZ := ZB.below (ZB.new x1) hq))
        (try (with_reducible have hZ := ZB.below hZ hq))
        have hb2 : Below w28.heap.size w28 x2 := bstp (by go_grown) hq
        have ht2 := hb2.size
        have hp2 : Below x1.heap.size x1 x2 := bstp (by go_grown) hq
        have C1_2 := Go.Lib.hid ((C1_1.out.below hp2).mono hp2.size)
        have C2_2 := Go.Lib.hid hc
        clear hc hq
        (try go_wp2_with fail)
        (try clear hHeld)
        refine hK.out _ _ ?_ (fun hHeld => ?_)
        · exact keepb3 (by go_grown) lB1 cB1_0 cB1_1 cB1_2 lB2 cB2_0 cB2_1 cB2_2 lB3 cB3_0 cB3_1 cB3_2
        clear hK K
        (try simp only [Act.put, List.setIfInBounds_toArray, List.set_cons_zero, List.set_cons_succ])
        refine wpAnyH_ready (rs := [5, 10]) (by kernel_rfl) (by simp) ?_
        refine AllReadyH.cons (o := _) rfl (fun K hK => ?_) ?_
        · go_simp
          refine (c_toBdd (B := W.heap.size) V3 r3 _ (Nat.le_trans HB.out.size (Below.size (show Below w28.heap.size w28 _ by go_grown))) ((HN3.out.below HB.out).below (Below.mono (show Below w28.heap.size w28 _ by go_grown) HB.out.size)) hlen3).mono ?_
          rintro e x3 ⟨g3, rfl, hc, -, -, hq⟩
          (try (with_reducible have hZ := ZB.below (ZB.new x2) hq))
          (try (with_reducible have hZ := ZB.below hZ hq))
          have hb3 : Below w28.heap.size w28 x3 := bstp (by go_grown) hq
          have ht3 := hb3.size
          have hp3 : Below x2.heap.size x2 x3 := bstp (by go_grown) hq
          have C1_3 := Go.Lib.hid ((C1_2.out.below hp3).mono hp3.size)
          have C2_3 := Go.Lib.hid ((C2_2.out.below hp3).mono hp3.size)
          have C3_3 := Go.Lib.hid hc
          clear hc hq
          (try go_wp2_with fail)
          (try clear hHeld)
          refine hK.out _ _ ?_ (fun hHeld => ?_)
          · exact keepb3 (by go_grown) lB1 cB1_0 cB1_1 cB1_2 lB2 cB2_0 cB2_1 cB2_2 lB3 cB3_0 cB3_1 cB3_2
          clear hK K
          (try simp only [Act.put, List.setIfInBounds_toArray, List.set_cons_zero, List.set_cons_succ])
          refine wpAnyH_ready (rs := [6, 10]) (by kernel_rfl) (by simp) ?_
          refine AllReadyH.cons (o := _) rfl (fun K hK => ?_) ?_
          · go_simp
            refine (c_BddIfI (B := x3.heap.size) V1 r1 V2 r2 V3 r3 _ (GL.out.below (show Below w28.heap.size w28 _ by go_grown)) (Below.size (show Below x3.heap.size x3 _ by go_grown)) (C1_3.out.below (by go_grown)) (C2_3.out.below (by go_grown)) (C3_3.out.below (by go_grown))).mono ?_
            rintro e xs ⟨vw, V, R, q, ms, rfl, how, hcr, hq⟩
            obtain ⟨aw, cw, rfl, -⟩ := OwnN.form how
            (try (with_reducible have hZ' := And.intro (ZB.new x3).lt (ZB.below (ZB.new x3) hq)))
            (try (with_reducible have hZ' := And.intro hZ.lt (ZB.below hZ hq)))
            have hbs : Below w28.heap.size w28 xs := bstp (by go_grown) hq
            have hts := hbs.size
            have hbase := And.intro (Below.size (show Below w28.heap.size w28 _ by first | exact hb3 | go_grown)) how
            clear hq
            (try have y0 := cell_of_block (i := 0) hZ'.2.blk (v := .int .i64 0) rfl)
            (try have y1 := cell_of_block (i := 1) hZ'.2.blk (v := .slice none 0 0) rfl)
            (try have y2 := cell_of_block (i := 2) hZ'.2.blk (v := .int .i64 0) rfl)
            (try have y3 := free_of_block (i := 0) hZ'.2.blk)
            (try have y4 := free_of_block (i := 1) hZ'.2.blk)
            (try have y5 := free_of_block (i := 2) hZ'.2.blk)
            (try go_wp2_with fail)
            (try clear hHeld)
            refine hK.out _ _ ?_ (fun hHeld => ?_)
            · exact keepb3 (by go_grown) lB1 cB1_0 cB1_1 cB1_2 lB2 cB2_0 cB2_1 cB2_2 lB3 cB3_0 cB3_1 cB3_2
            clear hK K
            (try simp only [Act.put, List.setIfInBounds_toArray, List.set_cons_zero, List.set_cons_succ])
            refine tL 7 (some 115) ?_
            refine tL 8 (some 123) ?_
            refine tL 9 (some 124) ?_
            refine wpAnyH_ready (rs := [10]) (by kernel_rfl) (by simp) ?_
            refine AllReadyH.cons (o := _) rfl (fun K hK => ?_) AllReadyH.nil
            go_simp
            (try clear hHeld)
            refine hK.out _ _ ?_ (fun hHeld => ?_)
            · exact keepb3 (by go_grown) lB1 cB1_0 cB1_1 cB1_2 lB2 cB2_0 cB2_1 cB2_2 lB3 cB3_0 cB3_1 cB3_2
            clear hK K
            (try simp only [Act.put, List.setIfInBounds_toArray, List.set_cons_zero, List.set_cons_succ])
            refine wpAnyH_ready (rs := [11]) (by kernel_rfl) (by simp) ?_
            refine AllReadyH.cons (o := _) rfl (fun K hK => ?_) AllReadyH.nil
            go_simp
            (try clear hHeld)
            refine hK.out _ _ ?_ (fun hHeld => ?_)
            · exact keepb3 (by go_grown) lB1 cB1_0 cB1_1 cB1_2 lB2 cB2_0 cB2_1 cB2_2 lB3 cB3_0 cB3_1 cB3_2
            clear hK K
            (try simp only [Act.put, List.setIfInBounds_toArray, List.set_cons_zero, List.set_cons_succ])
            refine tL 12 (some 19) ?_
            refine wpAnyH_done (by kernel_rfl) ?_ _
            go_wp2_with fail
            go_meet
            clear hHeld
            first | (with_reducible exact cut_old hZ'.2 (by omega) hZ'.1 how hcr hbs) | (with_reducible exact cut_new ht3 how hcr hbs)
          refine AllReadyH.cons (o := _) rfl (fun K hK => ?_) ?_
          · go_simp
            (try clear hHeld)
            refine hK.out _ _ ?_ (fun hHeld => ?_)
            · exact keepb3 (by go_grown) lB1 cB1_0 cB1_1 cB1_2 lB2 cB2_0 cB2_1 cB2_2 lB3 cB3_0 cB3_1 cB3_2
            clear hK K
            (try simp only [Act.put, List.setIfInBounds_toArray, List.set_cons_zero, List.set_cons_succ])
            refine wpAnyH_ready (rs := [6]) (by kernel_rfl) (by simp) ?_
            refine AllReadyH.cons (o := _) rfl (fun K hK => ?_) AllReadyH.nil
            go_simp
            refine (c_BddIfI (B := x3.heap.size) V1 r1 V2 r2 V3 r3 _ (GL.out.below (show Below w28.heap.size w28 _ by go_grown)) (Below.size (show Below x3.heap.size x3 _ by go_grown)) (C1_3.out.below (by go_grown)) (C2_3.out.below (by go_grown)) (C3_3.out.below (by go_grown))).mono ?_
            rintro e xs ⟨vw, V, R, q, ms, rfl, how, hcr, hq⟩
            obtain ⟨aw, cw, rfl, -⟩ := OwnN.form how
            (try (with_reducible have hZ' := And.intro (ZB.new x3).lt (ZB.below (ZB.new x3) hq)))
            (try (with_reducible have hZ' := And.intro hZ.lt (ZB.below hZ hq)))
            have hbs : Below w28.heap.size w28 xs := bstp (by go_grown) hq
            have hts := hbs.size
            have hbase := And.intro (Below.size (show Below w28.heap.size w28 _ by first | exact hb3 | go_grown)) how
            clear hq
            (try have y0 := cell_of_block (i := 0) hZ'.2.blk (v := .int .i64 0) rfl)
            (try have y1 := cell_of_block (i := 1) hZ'.2.blk (v := .slice none 0 0) rfl)
            (try have y2 := cell_of_block (i := 2) hZ'.2.blk (v := .int .i64 0) rfl)
            (try have y3 := free_of_block (i := 0) hZ'.2.blk)
            (try have y4 := free_of_block (i := 1) hZ'.2.blk)
            (try have y5 := free_of_block (i := 2) hZ'.2.blk)
            (try go_wp2_with fail)
            (try clear hHeld)
            refine hK.out _ _ ?_ (fun hHeld => ?_)
            · exact keepb3 (by go_grown) lB1 cB1_0 cB1_1 cB1_2 lB2 cB2_0 cB2_1 cB2_2 lB3 cB3_0 cB3_1 cB3_2
            clear hK K
            (try simp only [Act.put, List.setIfInBounds_toArray, List.set_cons_zero, List.set_cons_succ])
            refine tL 7 (some 115) ?_
            refine tL 8 (some 123) ?_
            refine tL 9 (some 124) ?_
            refine wpAnyH_ready (rs := [11]) (by kernel_rfl) (by simp) ?_
            refine AllReadyH.cons (o := _) rfl (fun K hK => ?_) AllReadyH.nil
            go_simp
            (try clear hHeld)
            refine hK.out _ _ ?_ (fun hHeld => ?_)
            · exact keepb3 (by go_grown) lB1 cB1_0 cB1_1 cB1_2 lB2 cB2_0 cB2_1 cB2_2 lB3 cB3_0 cB3_1 cB3_2
            clear hK K
            (try simp only [Act.put, List.setIfInBounds_toArray, List.set_cons_zero, List.set_cons_succ])
            refine tL 12 (some 19) ?_
            refine wpAnyH_done (by kernel_rfl) ?_ _
            go_wp2_with fail
            go_meet
            clear hHeld
            first | (with_reducible exact cut_old hZ'.2 (by omega) hZ'.1 how hcr hbs) | (with_reducible exact cut_new ht3 how hcr hbs)
          exact AllReadyH.nil
        refine AllReadyH.cons (o := _) rfl (fun K hK => ?_) ?_
        · go_simp
          (try clear hHeld)
          refine hK.out _ _ ?_ (fun hHeld => ?_)
          · exact keepb3 (by go_grown) lB1 cB1_0 cB1_1 cB1_2 lB2 cB2_0 cB2_1 cB2_2 lB3 cB3_0 cB3_1 cB3_2
          clear hK K
          (try simp only [Act.put, List.setIfInBounds_toArray, List.set_cons_zero, List.set_cons_succ])
          refine wpAnyH_ready (rs := [5]) (by kernel_rfl) (by simp) ?_
          refine AllReadyH.cons (o := _) rfl (fun K hK => ?_) AllReadyH.nil
          go_simp
          refine (c_toBdd (B := W.heap.size) V3 r3 _ (Nat.le_trans HB.out.size (Below.size (show Below w28.heap.size w28 _ by go_grown))) ((HN3.out.below HB.out).below (Below.mono (show Below w28.heap.size w28 _ by go_grown) HB.out.size)) hlen3).mono ?_
          rintro e x3 ⟨g3, rfl, hc, -, -, hq⟩
          (try (with_reducible have hZ := ZB.below (ZB.new x2) hq))
          (try (with_reducible have hZ := ZB.below hZ hq))
          have hb3 : Below w28.heap.size w28 x3 := bstp (by go_grown) hq
          have ht3 := hb3.size
          have hp3 : Below x2.heap.size x2 x3 := bstp (by go_grown) hq
          have C1_3 := Go.Lib.hid ((C1_2.out.below hp3).mono hp3.size)
          have C2_3 := Go.Lib.hid ((C2_2.out.below hp3).mono hp3.size)
          have C3_3 := Go.Lib.hid hc
          clear hc hq
          (try go_wp2_with fail)
          (try clear hHeld)
          refine hK.out _ _ ?_ (fun hHeld => ?_)
          · exact keepb3 (by go_grown) lB1 cB1_0 cB1_1 cB1_2 lB2 cB2_0 cB2_1 cB2_2 lB3 cB3_0 cB3_1 cB3_2
          clear hK K
          (try simp only [Act.put, List.setIfInBounds_toArray, List.set_cons_zero, List.set_cons_succ])
          refine wpAnyH_ready (rs := [6]) (by kernel_rfl) (by simp) ?_
          refine AllReadyH.cons (o := _) rfl (fun K hK => ?_) AllReadyH.nil
          go_simp
          refine (c_BddIfI (B := x3.heap.size) V1 r1 V2 r2 V3 r3 _ (GL.out.below (show Below w28.heap.size w28 _ by go_grown)) (Below.size (show Below x3.heap.size x3 _ by go_grown)) (C1_3.out.below (by go_grown)) (C2_3.out.below (by go_grown)) (C3_3.out.below (by go_grown))).mono ?_
          rintro e xs ⟨vw, V, R, q, ms, rfl, how, hcr, hq⟩
          obtain ⟨aw, cw, rfl, -⟩ := OwnN.form how
          (try (with_reducible have hZ' := And.intro (ZB.new x3).lt (ZB.below (ZB.new x3) hq)))
          (try (with_reducible have hZ' := And.intro hZ.lt (ZB.below hZ hq)))
          have hbs : Below w28.heap.size w28 xs := bstp (by go_grown) hq
          have hts := hbs.size
          have hbase := And.intro (Below.size (show Below w28.heap.size w28 _ by first | exact hb3 | go_grown)) how
          clear hq
          (try have y0 := cell_of_block (i := 0) hZ'.2.blk (v := .int .i64 0) rfl)
          (try have y1 := cell_of_block (i := 1) hZ'.2.blk (v := .slice none 0 0) rfl)
          (try have y2 := cell_of_block (i := 2) hZ'.2.blk (v := .int .i64 0) rfl)
          (try have y3 := free_of_block (i := 0) hZ'.2.blk)
          (try have y4 := free_of_block (i := 1) hZ'.2.blk)
          (try have y5 := free_of_block (i := 2) hZ'.2.blk)
          (try go_wp2_with fail)
          (try clear hHeld)
          refine hK.out _ _ ?_ (fun hHeld => ?_)
          · exact keepb3 (by go_grown) lB1 cB1_0 cB1_1 cB1_2 lB2 cB2_0 cB2_1 cB2_2 lB3 cB3_0 cB3_1 cB3_2
          clear hK K
          (try simp only [Act.put, List.setIfInBounds_toArray, List.set_cons_zero, List.set_cons_succ])
          refine tL 7 (some 115) ?_
          refine tL 8 (some 123) ?_
          refine tL 9 (some 124) ?_
          refine wpAnyH_ready (rs := [11]) (by kernel_rfl) (by simp) ?_
          refine AllReadyH.cons (o := _) rfl (fun K hK => ?_) AllReadyH.nil
          go_simp
          (try clear hHeld)
          refine hK.out _ _ ?_ (fun hHeld => ?_)
          · exact keepb3 (by go_grown) lB1 cB1_0 cB1_1 cB1_2 lB2 cB2_0 cB2_1 cB2_2 lB3 cB3_0 cB3_1 cB3_2
          clear hK K
          (try simp only [Act.put, List.setIfInBounds_toArray, List.set_cons_zero, List.set_cons_succ])
          refine tL 12 (some 19) ?_
          refine wpAnyH_done (by kernel_rfl) ?_ _
          go_wp2_with fail
          go_meet
          clear hHeld
          first | (with_reducible exact cut_old hZ'.2 (by omega) hZ'.1 how hcr hbs) | (with_reducible exact cut_new ht3 how hcr hbs)
        exact AllReadyH.nil
      refine AllReadyH.cons (o := _) rfl (fun K hK => ?_) ?_
      · go_simp
        (try clear hHeld)
        refine hK.out _ _ ?_ (fun hHeld => ?_)
        · exact keepb3 (by go_grown) lB1 cB1_0 cB1_1 cB1_2 lB2 cB2_0 cB2_1 cB2_2 lB3 cB3_0 cB3_1 cB3_2
        clear hK K
        (try simp only [Act.put, List.setIfInBounds_toArray, List.set_cons_zero, List.set_cons_succ])
        refine wpAnyH_ready (rs := [3]) (by kernel_rfl) (by simp) ?_
        refine AllReadyH.cons (o := _) rfl (fun K hK => ?_) AllReadyH.nil
        go_simp
        refine (c_toBdd (B := W.heap.size) V2 r2 _ (Nat.le_trans HB.out.size (Below.size (show Below w28.heap.size w28 _ by go_grown))) ((HN2.out.below HB.out).below (Below.mono (show Below w28.heap.size w28 _ by go_grown) HB.out.size)) hlen2).mono ?_
        rintro e x2 ⟨g2, rfl, hc, -, -, hq⟩
        (try (with_reducible have hZ := ZB.below (ZB.new x1) hq))
        (try (with_reducible have hZ := ZB.below hZ hq))
        have hb2 : Below w28.heap.size w28 x2 := bstp (by go_grown) hq
        have ht2 := hb2.size
        have hp2 : Below x1.heap.size x1 x2 := bstp (by go_grown) hq
        have C1_2 := Go.Lib.hid ((C1_1.out.below hp2).mono hp2.size)
        have C2_2 := Go.Lib.hid hc
        clear hc hq
        (try go_wp2_with fail)
        (try clear hHeld)
        refine hK.out _ _ ?_ (fun hHeld => ?_)
        · exact keepb3 (by go_grown) lB1 cB1_0 cB1_1 cB1_2 lB2 cB2_0 cB2_1 cB2_2 lB3 cB3_0 cB3_1 cB3_2
        clear hK K
        (try simp only [Act.put, List.setIfInBounds_toArray, List.set_cons_zero, List.set_cons_succ])
        refine wpAnyH_ready (rs := [5]) (by kernel_rfl) (by simp) ?_
        refine AllReadyH.cons (o := _) rfl (fun K hK => ?_) AllReadyH.nil
        go_simp
        refine (c_toBdd (B := W.heap.size) V3 r3 _ (Nat.le_trans HB.out.size (Below.size (show Below w28.heap.size w28 _ by go_grown))) ((HN3.out.below HB.out).below (Below.mono (show Below w28.heap.size w28 _ by go_grown) HB.out.size)) hlen3).mono ?_
        rintro e x3 ⟨g3, rfl, hc, -, -, hq⟩
        (try (with_reducible have hZ := ZB.below (ZB.new x2) hq))
        (try (with_reducible have hZ := ZB.below hZ hq))
        have hb3 : Below w28.heap.size w28 x3 := bstp (by go_grown) hq
        have ht3 := hb3.size
        have hp3 : Below x2.heap.size x2 x3 := bstp (by go_grown) hq
        have C1_3 := Go.Lib.hid ((C1_2.out.below hp3).mono hp3.size)
        have C2_3 := Go.Lib.hid ((C2_2.out.below hp3).mono hp3.size)
        have C3_3 := Go.Lib.hid hc
        clear hc hq
        (try go_wp2_with fail)
        (try clear hHeld)
        refine hK.out _ _ ?_ (fun hHeld => ?_)
        · exact keepb3 (by go_grown) lB1 cB1_0 cB1_1 cB1_2 lB2 cB2_0 cB2_1 cB2_2 lB3 cB3_0 cB3_1 cB3_2
        clear hK K
        (try simp only [Act.put, List.setIfInBounds_toArray, List.set_cons_zero, List.set_cons_succ])
        refine wpAnyH_ready (rs := [6]) (by kernel_rfl) (by simp) ?_
        refine AllReadyH.cons (o := _) rfl (fun K hK => ?_) AllReadyH.nil
        go_simp
        refine (c_BddIfI (B := x3.heap.size) V1 r1 V2 r2 V3 r3 _ (GL.out.below (show Below w28.heap.size w28 _ by go_grown)) (Below.size (show Below x3.heap.size x3 _ by go_grown)) (C1_3.out.below (by go_grown)) (C2_3.out.below (by go_grown)) (C3_3.out.below (by go_grown))).mono ?_
        rintro e xs ⟨vw, V, R, q, ms, rfl, how, hcr, hq⟩
        obtain ⟨aw, cw, rfl, -⟩ := OwnN.form how
        (try (with_reducible have hZ' := And.intro (ZB.new x3).lt (ZB.below (ZB.new x3) hq)))
        (try (with_reducible have hZ' := And.intro hZ.lt (ZB.below hZ hq)))
        have hbs : Below w28.heap.size w28 xs := bstp (by go_grown) hq
        have hts := hbs.size
        have hbase := And.intro (Below.size (show Below w28.heap.size w28 _ by first | exact hb3 | go_grown)) how
        clear hq
        (try have y0 := cell_of_block (i := 0) hZ'.2.blk (v := .int .i64 0) rfl)
        (try have y1 := cell_of_block (i := 1) hZ'.2.blk (v := .slice none 0 0) rfl)
        (try have y2 := cell_of_block (i := 2) hZ'.2.blk (v := .int .i64 0) rfl)
        (try have y3 := free_of_block (i := 0) hZ'.2.blk)
        (try have y4 := free_of_block (i := 1) hZ'.2.blk)
        (try have y5 := free_of_block (i := 2) hZ'.2.blk)
        (try go_wp2_with fail)
        (try clear hHeld)
        refine hK.out _ _ ?_ (fun hHeld => ?_)
        · exact keepb3 (by go_grown) lB1 cB1_0 cB1_1 cB1_2 lB2 cB2_0 cB2_1 cB2_2 lB3 cB3_0 cB3_1 cB3_2
        clear hK K
        (try simp only [Act.put, List.setIfInBounds_toArray, List.set_cons_zero, List.set_cons_succ])
        refine tL 7 (some 115) ?_
        refine tL 8 (some 123) ?_
        refine tL 9 (some 124) ?_
        refine wpAnyH_ready (rs := [11]) (by kernel_rfl) (by simp) ?_
        refine AllReadyH.cons (o := _) rfl (fun K hK => ?_) AllReadyH.nil
        go_simp
        (try clear hHeld)
        refine hK.out _ _ ?_ (fun hHeld => ?_)
        · exact keepb3 (by go_grown) lB1 cB1_0 cB1_1 cB1_2 lB2 cB2_0 cB2_1 cB2_2 lB3 cB3_0 cB3_1 cB3_2
        clear hK K
        (try simp only [Act.put, List.setIfInBounds_toArray, List.set_cons_zero, List.set_cons_succ])
        refine tL 12 (some 19) ?_
        refine wpAnyH_done (by kernel_rfl) ?_ _
        go_wp2_with fail
        go_meet
        clear hHeld
        first | (with_reducible exact cut_old hZ'.2 (by omega) hZ'.1 how hcr hbs) | (with_reducible exact cut_new ht3 how hcr hbs)
      exact AllReadyH.nil
    refine AllReadyH.cons (o := _) rfl (fun K hK => ?_) ?_
    · go_simp
      (try clear hHeld)
      refine hK.out _ _ ?_ (fun hHeld => ?_)
      · exact keepb3 (by go_grown) lB1 cB1_0 cB1_1 cB1_2 lB2 cB2_0 cB2_1 cB2_2 lB3 cB3_0 cB3_1 cB3_2
      clear hK K
      (try simp only [Act.put, List.setIfInBounds_toArray, List.set_cons_zero, List.set_cons_succ])
      refine wpAnyH_ready (rs := [1]) (by kernel_rfl) (by simp) ?_
      refine AllReadyH.cons (o := _) rfl (fun K hK => ?_) AllReadyH.nil
      go_simp
      refine (c_toBdd (B := W.heap.size) V1 r1 _ (Nat.le_trans HB.out.size (Below.size (show Below w28.heap.size w28 _ by go_grown))) ((HN1.out.below HB.out).below (Below.mono (show Below w28.heap.size w28 _ by go_grown) HB.out.size)) hlen1).mono ?_
      rintro e x1 ⟨g1, rfl, hc, -, -, hq⟩
      (try (with_reducible have hZ := ZB.below (ZB.newD w28) hq))
      have hb1 : Below w28.heap.size w28 x1 := bstp (by go_grown) hq
      have ht1 := hb1.size
      have C1_1 := Go.Lib.hid hc
      clear hc hq
      (try go_wp2_with fail)
      (try clear hHeld)
      refine hK.out _ _ ?_ (fun hHeld => ?_)
      · exact keepb3 (by go_grown) lB1 cB1_0 cB1_1 cB1_2 lB2 cB2_0 cB2_1 cB2_2 lB3 cB3_0 cB3_1 cB3_2
      clear hK K
      (try simp only [Act.put, List.setIfInBounds_toArray, List.set_cons_zero, List.set_cons_succ])
      refine wpAnyH_ready (rs := [3]) (by kernel_rfl) (by simp) ?_
      refine AllReadyH.cons (o := _) rfl (fun K hK => ?_) AllReadyH.nil
      go_simp
      refine (c_toBdd (B := W.heap.size) V2 r2 _ (Nat.le_trans HB.out.size (Below.size (show Below w28.heap.size w28 _ by go_grown))) ((HN2.out.below HB.out).below (Below.mono (show Below w28.heap.size w28 _ by go_grown) HB.out.size)) hlen2).mono ?_
      rintro e x2 ⟨g2, rfl, hc, -, -, hq⟩
      (try (with_reducible have hZ := ZB.below (ZB.new x1) hq))
      (try (with_reducible have hZ := ZB.below hZ hq))
      have hb2 : Below w28.heap.size w28 x2 := bstp (by go_grown) hq
      have ht2 := hb2.size
      have hp2 : Below x1.heap.size x1 x2 := bstp (by go_grown) hq
      have C1_2 := Go.Lib.hid ((C1_1.out.below hp2).mono hp2.size)
      have C2_2 := Go.Lib.hid hc
      clear hc hq
      (try go_wp2_with fail)
      (try clear hHeld)
      refine hK.out _ _ ?_ (fun hHeld => ?_)
      · exact keepb3 (by go_grown) lB1 cB1_0 cB1_1 cB1_2 lB2 cB2_0 cB2_1 cB2_2 lB3 cB3_0 cB3_1 cB3_2
      clear hK K
      (try simp only [Act.put, List.setIfInBounds_toArray, List.set_cons_zero, List.set_cons_succ])
      refine wpAnyH_ready (rs := [5]) (by kernel_rfl) (by simp) ?_
      refine AllReadyH.cons (o := _) rfl (fun K hK => ?_) AllReadyH.nil
      go_simp
      refine (c_toBdd (B := W.heap.size) V3 r3 _ (Nat.le_trans HB.out.size (Below.size (show Below w28.heap.size w28 _ by go_grown))) ((HN3.out.below HB.out).below (Below.mono (show Below w28.heap.size w28 _ by go_grown) HB.out.size)) hlen3).mono ?_
      rintro e x3 ⟨g3, rfl, hc, -, -, hq⟩
      (try (with_reducible have hZ := ZB.below (ZB.new x2) hq))
      (try (with_reducible have hZ := ZB.below hZ hq))
      have hb3 : Below w28.heap.size w28 x3 := bstp (by go_grown) hq
      have ht3 := hb3.size
      have hp3 : Below x2.heap.size x2 x3 := bstp (by go_grown) hq
      have C1_3 := Go.Lib.hid ((C1_2.out.below hp3).mono hp3.size)
      have C2_3 := Go.Lib.hid ((C2_2.out.below hp3).mono hp3.size)
      have C3_3 := Go.Lib.hid hc
      clear hc hq
      (try go_wp2_with fail)
      (try clear hHeld)
      refine hK.out _ _ ?_ (fun hHeld => ?_)
      · exact keepb3 (by go_grown) lB1 cB1_0 cB1_1 cB1_2 lB2 cB2_0 cB2_1 cB2_2 lB3 cB3_0 cB3_1 cB3_2
      clear hK K
      (try simp only [Act.put, List.setIfInBounds_toArray, List.set_cons_zero, List.set_cons_succ])
      refine wpAnyH_ready (rs := [6]) (by kernel_rfl) (by simp) ?_
      refine AllReadyH.cons (o := _) rfl (fun K hK => ?_) AllReadyH.nil
      go_simp
      refine (c_BddIfI (B := x3.heap.size) V1 r1 V2 r2 V3 r3 _ (GL.out.below (show Below w28.heap.size w28 _ by go_grown)) (Below.size (show Below x3.heap.size x3 _ by go_grown)) (C1_3.out.below (by go_grown)) (C2_3.out.below (by go_grown)) (C3_3.out.below (by go_grown))).mono ?_
      rintro e xs ⟨vw, V, R, q, ms, rfl, how, hcr, hq⟩
      obtain ⟨aw, cw, rfl, -⟩ := OwnN.form how
      (try (with_reducible have hZ' := And.intro (ZB.new x3).lt (ZB.below (ZB.new x3) hq)))
      (try (with_reducible have hZ' := And.intro hZ.lt (ZB.below hZ hq)))
      have hbs : Below w28.heap.size w28 xs := bstp (by go_grown) hq
      have hts := hbs.size
      have hbase := And.intro (Below.size (show Below w28.heap.size w28 _ by first | exact hb3 | go_grown)) how
      clear hq
      (try have y0 := cell_of_block (i := 0) hZ'.2.blk (v := .int .i64 0) rfl)
      (try have y1 := cell_of_block (i := 1) hZ'.2.blk (v := .slice none 0 0) rfl)
      (try have y2 := cell_of_block (i := 2) hZ'.2.blk (v := .int .i64 0) rfl)
      (try have y3 := free_of_block (i := 0) hZ'.2.blk)
      (try have y4 := free_of_block (i := 1) hZ'.2.blk)
      (try have y5 := free_of_block (i := 2) hZ'.2.blk)
      (try go_wp2_with fail)
      (try clear hHeld)
      refine hK.out _ _ ?_ (fun hHeld => ?_)
      · exact keepb3 (by go_grown) lB1 cB1_0 cB1_1 cB1_2 lB2 cB2_0 cB2_1 cB2_2 lB3 cB3_0 cB3_1 cB3_2
      clear hK K
      (try simp only [Act.put, List.setIfInBounds_toArray, List.set_cons_zero, List.set_cons_succ])
      refine tL 7 (some 115) ?_
      refine tL 8 (some 123) ?_
      refine tL 9 (some 124) ?_
      refine wpAnyH_ready (rs := [11]) (by kernel_rfl) (by simp) ?_
      refine AllReadyH.cons (o := _) rfl (fun K hK => ?_) AllReadyH.nil
      go_simp
      (try clear hHeld)
      refine hK.out _ _ ?_ (fun hHeld => ?_)
      · exact keepb3 (by go_grown) lB1 cB1_0 cB1_1 cB1_2 lB2 cB2_0 cB2_1 cB2_2 lB3 cB3_0 cB3_1 cB3_2
      clear hK K
      (try simp only [Act.put, List.setIfInBounds_toArray, List.set_cons_zero, List.set_cons_succ])
      refine tL 12 (some 19) ?_
      refine wpAnyH_done (by kernel_rfl) ?_ _
      go_wp2_with fail
      go_meet
      clear hHeld
      first | (with_reducible exact cut_old hZ'.2 (by omega) hZ'.1 how hcr hbs) | (with_reducible exact cut_new ht3 how hcr hbs)
    exact AllReadyH.nil
  case rest =>
  obtain ⟨we, rfl⟩ : ∃ x, x = wc := ⟨_, rfl⟩
  obtain ⟨gh, V2', R2', q2', ms2, ah, ch, rfl, rfl, hgh, kk, hoh, hcr, hq⟩ := hcut
  obtain ⟨rfl, rfl, rfl, rfl⟩ := hcr.inj (fun h => by have h1 := h.1.2.1.hv; omega) HCR.out
  clear cB1_0 cB1_1 cB1_2 cB2_0 cB2_1 cB2_2 cB3_0 cB3_1 cB3_2 cgw_0 cgw_1 cgw_2 cgg_0 cgg_1 cgg_2
  have HOG := Go.Lib.hid hoh
  have lgh : gh < we.heap.size := (Array.getElem?_eq_some_iff.1 kk).1
  have Hgh := Go.Lib.hid kk
  replace HB1 := Go.Lib.hid ((hq.block _ lB1).trans HB1.out)
  replace lB1 := Nat.lt_of_lt_of_le lB1 hq.size
  replace HB2 := Go.Lib.hid ((hq.block _ lB2).trans HB2.out)
  replace lB2 := Nat.lt_of_lt_of_le lB2 hq.size
  replace HB3 := Go.Lib.hid ((hq.block _ lB3).trans HB3.out)
  replace lB3 := Nat.lt_of_lt_of_le lB3 hq.size
  replace Hgw := Go.Lib.hid ((hq.block _ lgw).trans Hgw.out)
  replace lgw := Nat.lt_of_lt_of_le lgw hq.size
  replace Hgg := Go.Lib.hid ((hq.block _ lgg).trans Hgg.out)
  replace lgg := Nat.lt_of_lt_of_le lgg hq.size
  replace GL := Go.Lib.hid (GL.out.below hq)
  replace HOW := Go.Lib.hid (HOW.out.below hq)
  replace HHD := Go.Lib.hid (HHD.out.below hq)
  replace HB := Go.Lib.hid (HB.out.trans (hq.mono HB.out.size))
  clear hoh hcr hq kk
  have cB1_0 := cell_of_block (i := 0) HB1.out (v := .int .i64 V1) rfl
  have cB1_1 := cell_of_block (i := 1) HB1.out (v := .slice a1 len1 cap1) rfl
  have cB1_2 := cell_of_block (i := 2) HB1.out (v := .int .i64 r1) rfl
  have cB2_0 := cell_of_block (i := 0) HB2.out (v := .int .i64 V2) rfl
  have cB2_1 := cell_of_block (i := 1) HB2.out (v := .slice a2 len2 cap2) rfl
  have cB2_2 := cell_of_block (i := 2) HB2.out (v := .int .i64 r2) rfl
  have cB3_0 := cell_of_block (i := 0) HB3.out (v := .int .i64 V3) rfl
  have cB3_1 := cell_of_block (i := 1) HB3.out (v := .slice a3 len3 cap3) rfl
  have cB3_2 := cell_of_block (i := 2) HB3.out (v := .int .i64 r3) rfl
  have cgw_0 := cell_of_block (i := 0) Hgw.out (v := .int .i64 V2') rfl
  have cgw_1 := cell_of_block (i := 1) Hgw.out (v := .slice aw ms2.length cw) rfl
  have cgw_2 := cell_of_block (i := 2) Hgw.out (v := .int .i64 R2') rfl
  have cgg_0 := cell_of_block (i := 0) Hgg.out (v := .int .i64 V2') rfl
  have cgg_1 := cell_of_block (i := 1) Hgg.out (v := .slice ag ms2.length cg) rfl
  have cgg_2 := cell_of_block (i := 2) Hgg.out (v := .int .i64 R2') rfl
  have cgh_0 := cell_of_block (i := 0) Hgh.out (v := .int .i64 V2') rfl
  have cgh_1 := cell_of_block (i := 1) Hgh.out (v := .slice ah ms2.length ch) rfl
  have cgh_2 := cell_of_block (i := 2) Hgh.out (v := .int .i64 R2') rfl
  go_wp2_with fail
  refine (c_eqBdd (B := we.heap.size) V2' R2' we (Nat.le_refl _) (HOG.out.bns rfl) (HOW.out.bns rfl)).mono ?_
  rintro e w30 ⟨rfl, hq⟩
  replace HB1 := Go.Lib.hid ((hq.block _ lB1).trans HB1.out)
  replace lB1 := Nat.lt_of_lt_of_le lB1 hq.size
  replace HB2 := Go.Lib.hid ((hq.block _ lB2).trans HB2.out)
  replace lB2 := Nat.lt_of_lt_of_le lB2 hq.size
  replace HB3 := Go.Lib.hid ((hq.block _ lB3).trans HB3.out)
  replace lB3 := Nat.lt_of_lt_of_le lB3 hq.size
  replace Hgw := Go.Lib.hid ((hq.block _ lgw).trans Hgw.out)
  replace lgw := Nat.lt_of_lt_of_le lgw hq.size
  replace Hgg := Go.Lib.hid ((hq.block _ lgg).trans Hgg.out)
  replace lgg := Nat.lt_of_lt_of_le lgg hq.size
  replace Hgh := Go.Lib.hid ((hq.block _ lgh).trans Hgh.out)
  replace lgh := Nat.lt_of_lt_of_le lgh hq.size
  replace GL := Go.Lib.hid (GL.out.below hq)
  replace HOW := Go.Lib.hid (HOW.out.below hq)
  replace HHD := Go.Lib.hid (HHD.out.below hq)
  replace HOG := Go.Lib.hid (HOG.out.below hq)
  replace HB := Go.Lib.hid (HB.out.trans (hq.mono HB.out.size))
  clear cB1_0 cB1_1 cB1_2 cB2_0 cB2_1 cB2_2 cB3_0 cB3_1 cB3_2 cgw_0 cgw_1 cgw_2 cgg_0 cgg_1 cgg_2 cgh_0 cgh_1 cgh_2
  clear hq
  have cB1_0 := cell_of_block (i := 0) HB1.out (v := .int .i64 V1) rfl
  have cB1_1 := cell_of_block (i := 1) HB1.out (v := .slice a1 len1 cap1) rfl
  have cB1_2 := cell_of_block (i := 2) HB1.out (v := .int .i64 r1) rfl
  have cB2_0 := cell_of_block (i := 0) HB2.out (v := .int .i64 V2) rfl
  have cB2_1 := cell_of_block (i := 1) HB2.out (v := .slice a2 len2 cap2) rfl
  have cB2_2 := cell_of_block (i := 2) HB2.out (v := .int .i64 r2) rfl
  have cB3_0 := cell_of_block (i := 0) HB3.out (v := .int .i64 V3) rfl
  have cB3_1 := cell_of_block (i := 1) HB3.out (v := .slice a3 len3 cap3) rfl
  have cB3_2 := cell_of_block (i := 2) HB3.out (v := .int .i64 r3) rfl
  have cgw_0 := cell_of_block (i := 0) Hgw.out (v := .int .i64 V2') rfl
  have cgw_1 := cell_of_block (i := 1) Hgw.out (v := .slice aw ms2.length cw) rfl
  have cgw_2 := cell_of_block (i := 2) Hgw.out (v := .int .i64 R2') rfl
  have cgg_0 := cell_of_block (i := 0) Hgg.out (v := .int .i64 V2') rfl
  have cgg_1 := cell_of_block (i := 1) Hgg.out (v := .slice ag ms2.length cg) rfl
  have cgg_2 := cell_of_block (i := 2) Hgg.out (v := .int .i64 R2') rfl
  have cgh_0 := cell_of_block (i := 0) Hgh.out (v := .int .i64 V2') rfl
  have cgh_1 := cell_of_block (i := 1) Hgh.out (v := .slice ah ms2.length ch) rfl
  have cgh_2 := cell_of_block (i := 2) Hgh.out (v := .int .i64 R2') rfl
  go_wp2_with fail
  refine (c_heldBddL V2' R2' hlw w30 HHD.out).mono ?_
  rintro e w31 ⟨rfl, hq⟩
  replace HB1 := Go.Lib.hid ((hq.block _ lB1).trans HB1.out)
  replace lB1 := Nat.lt_of_lt_of_le lB1 hq.size
  replace HB2 := Go.Lib.hid ((hq.block _ lB2).trans HB2.out)
  replace lB2 := Nat.lt_of_lt_of_le lB2 hq.size
  replace HB3 := Go.Lib.hid ((hq.block _ lB3).trans HB3.out)
  replace lB3 := Nat.lt_of_lt_of_le lB3 hq.size
  replace Hgw := Go.Lib.hid ((hq.block _ lgw).trans Hgw.out)
  replace lgw := Nat.lt_of_lt_of_le lgw hq.size
  replace Hgg := Go.Lib.hid ((hq.block _ lgg).trans Hgg.out)
  replace lgg := Nat.lt_of_lt_of_le lgg hq.size
  replace Hgh := Go.Lib.hid ((hq.block _ lgh).trans Hgh.out)
  replace lgh := Nat.lt_of_lt_of_le lgh hq.size
  replace GL := Go.Lib.hid (GL.out.below hq)
  replace HOW := Go.Lib.hid (HOW.out.below hq)
  replace HHD := Go.Lib.hid (HHD.out.below hq)
  replace HOG := Go.Lib.hid (HOG.out.below hq)
  replace HB := Go.Lib.hid (HB.out.trans (hq.mono HB.out.size))
  clear cB1_0 cB1_1 cB1_2 cB2_0 cB2_1 cB2_2 cB3_0 cB3_1 cB3_2 cgw_0 cgw_1 cgw_2 cgg_0 cgg_1 cgg_2 cgh_0 cgh_1 cgh_2
  clear hq
  go_wp2_with fail
  go_ret
  exact ⟨rfl, HB.out⟩
end Go.Proofs.YtpehddfnlmkicaaDoor
