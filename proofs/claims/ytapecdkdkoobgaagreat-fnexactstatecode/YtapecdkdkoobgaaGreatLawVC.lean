/-
  The laws of the number of values.
-/
import Derived.Test.YtapecdkdkoobgaaGreatRows
import Derived.Test.YtapecdkdkoobgaaGreatPaA
import Derived.Test.YtapecdkdkoobgaaGreatNodeM
import Derived.Test.YtapecdkdkoobgaaGreatNodeL
import Derived.Test.YtapecdkdkoobgaaGreatPaG
import Derived.Test.YtapecdkdkoobgaaGreatResP
import Derived.Test.YtapecdkdkoobgaaGreatModD
import Derived.Test.YtapecdkdkoobgaaGreatModA
import Derived.Test.YtapecdkdkoobgaaGreatModB
import Derived.Test.YtapecdkdkoobgaaGreatModC
import Derived.Test.YtapecdkdkoobgaaGreatModE
import Derived.Test.YtapecdkdkoobgaaGreatModF
import Derived.Test.YtapecdkdkoobgaaGreatModG
import Derived.Test.YtapecdkdkoobgaaGreatModH
import Derived.Test.YtapecdkdkoobgaaGreatModI
import Derived.Test.YtapecdkdkoobgaaGreatModJ
import Derived.Test.YtapecdkdkoobgaaGreatModK
import Derived.Test.YtapecdkdkoobgaaGreatPaF
import Derived.Test.YtapecdkdkoobgaaGreatModQ
import Derived.Test.YtapecdkdkoobgaaGreatModU
import Derived.Test.YtapecdkdkoobgaaGreatModV
import Derived.Test.YtapecdkdkoobgaaGreatModW
import Derived.Test.YtapecdkdkoobgaaGreatLawMC
import Derived.Test.YtapecdkdkoobgaaGreatPaH
import Derived.Test.YtapecdkdkoobgaaGreatPaI
import Derived.Test.YtapecdkdkoobgaaGreatPaJ
import Derived.WalkKit
import Derived.ProofKit
import Derived.OpenShut
import Derived.WalkSpells
import Derived.WalkLawsBesides
import Derived.Outline
import Derived.BigQuiet
import Derived.Handy
import Derived.LoopTactic
import Derived.Deep.Light
import Derived.Deep.RegionWith
import Derived.Deep.RegionHeld3
import Derived.Deep.DeepCutAuto
import Derived.Lib.Hide
import Derived.Maps.OwnRows
import Derived.Deep.Onto
namespace Go.Proofs.YtapecdkdkoobgaaGreat
open Go.ChangeShapes Go.WideShapes Go.ChangeAt Go.RowKit Go.Maps
set_option linter.unusedVariables false
set_option maxRecDepth 100000


set_option maxHeartbeats 8000000 in
theorem w_FnExactStateCode {s0 s1 s2 s3 s4 : SL} {M : MD} {a : Option Addr} {len cap : Nat} {zss : List (List Int)} (W : World) (h : ModelAt W.heap.size W s0 s1 s2 s3 s4 M) (hv : ValsAt W.heap.size W a len cap zss) :
    Calls Tryz.prog 7 #[.agg (mcells s0 s1 s2 s3 s4).toArray, .slice a len cap] W fun e w' => e = .returned (.bool true) ∧ Below W.heap.size W w' := by
  have HMA := Go.Lib.hid h
  have HVA := Go.Lib.hid hv
  obtain rfl : zss.length = len := hv.length
  clear h hv
  simp only [mcells]
  go_enter Tryz.func7, Tryz.ntmps7
  go_upto_region 2 with fail
  refine code_gen (R := fun wb => Boxed s0 s1 s2 s3 s4 W wb) (Boxed.new _ _ _ _ _ _ _) ?_
  intro w0 hbox
  have HX0 := Go.Lib.hid hbox
  clear hbox
  obtain ⟨hlt, x0, x1, x2, x3, x4, hBx⟩ := HX0.out
  have hB0 : W.heap.size ≤ w0.heap.size := hBx.size
  have HM0 := Go.Lib.hid (HMA.out.below hBx)
  have HV0 := Go.Lib.hid (HVA.out.below hBx)
  clear hBx
  go_wp2_with fail
  refine (c_szModelL (B := W.heap.size) (s0 := s0) (s1 := s1) (s2 := s2) (s3 := s3) (s4 := s4) w0 hB0 HM0.out).mono ?_
  rintro e w1 ⟨r, rfl, hrl, hr, hq⟩
  have HX1 := Go.Lib.hid (HX0.out.below hq)
  clear hq x0 x1 x2 x3 x4 hlt HM0 HV0
  by_cases hn : r < 0
  · clear hr
    go_wp2_with fail
    go_ret
    exact ⟨rfl, HX1.out.2.2.2.2.2.2⟩
  obtain ⟨k0, k1, k2, k3, k4⟩ := hr (by omega)
  clear hr
  obtain ⟨hlt, x0, x1, x2, x3, x4, hBx⟩ := HX1.out
  have hB1 : W.heap.size ≤ w1.heap.size := hBx.size
  have HM1 := Go.Lib.hid (HMA.out.below hBx)
  have HV1 := Go.Lib.hid (HVA.out.below hBx)
  clear hBx
  go_wp2_with fail
  refine (c_szValueS (B := W.heap.size) r (by omega) hrl w1 hB1 HV1.out).mono ?_
  rintro e w2 ⟨r2, rfl, hr0, hr1, hr, hq⟩
  have HX2 := Go.Lib.hid (HX1.out.below hq)
  clear hq x0 x1 x2 x3 x4 hlt HM1 HV1
  by_cases hn2 : r2 < 0
  · clear hr
    go_wp2_with fail
    go_ret
    exact ⟨rfl, HX2.out.2.2.2.2.2.2⟩
  have kl : zss.length ≤ 1048576 := by have := (hr (by omega)).1; omega
  have KZ := Go.Lib.hid (show ∀ k, k < zss.length → ((zss.getD k []).length : Int) ≤ 1048576 from fun k hk => by have := (hr (by omega)).2 k hk; omega)
  clear hr
  obtain ⟨hlt, x0, x1, x2, x3, x4, hBx⟩ := HX2.out
  have hB2 : W.heap.size ≤ w2.heap.size := hBx.size
  have HM2 := Go.Lib.hid (HMA.out.below hBx)
  have HV2 := Go.Lib.hid (HVA.out.below hBx)
  clear hBx
  go_wp2_with fail
  refine (c_toModel (B := W.heap.size) (s0 := s0) (s1 := s1) (s2 := s2) (s3 := s3) (s4 := s4) w2 hB2 HM2.out k0 k1 k2 k3 k4).mono ?_
  rintro e w3 ⟨a0, a1, a2, a3, a4, rfl, hma, hgl, hrm, hq⟩
  have HMX := Go.Lib.hid hma
  have HX3 := Go.Lib.hid (HX2.out.below hq)
  clear hq x0 x1 x2 x3 x4 hlt HM2 HV2 hma hgl hrm
  obtain ⟨hlt, x0, x1, x2, x3, x4, hBx⟩ := HX3.out
  have hB3 : W.heap.size ≤ w3.heap.size := hBx.size
  have HM3 := Go.Lib.hid (HMA.out.below hBx)
  have HV3 := Go.Lib.hid (HVA.out.below hBx)
  clear hBx
  go_wp2_with fail
  refine (c_toValueS (B := W.heap.size) w3 hB3 HV3.out kl KZ.out).mono ?_
  rintro e w4 ⟨rfl, ⟨gs, hov⟩, -, hq⟩
  have HVX := Go.Lib.hid (hov.vals (cap := zss.length) (Nat.le_refl _) (by unfold maxLen; omega))
  have HMY := Go.Lib.hid ((HMX.out.below hq).mono hq.size)
  have HX4 := Go.Lib.hid (HX3.out.below hq)
  generalize hgv : w3.heap.size = gv at *
  clear hq x0 x1 x2 x3 x4 hlt HM3 HV3 hov HMX hgv
  go_wp2_with fail
  refine (c_StateCodeS (B := w4.heap.size) w4 (Nat.le_refl _) HMY.out HVX.out).mono ?_
  rintro e w5 ⟨q1, p1, rfl, hq1, hq⟩
  have HC := Go.Lib.hid hq1
  have HX5 := Go.Lib.hid (HX4.out.below hq)
  clear hq hq1 HMY HVX HX4
  obtain ⟨hlt, x0, x1, x2, x3, x4, hBx⟩ := HX5.out
  have hB5 : W.heap.size ≤ w5.heap.size := hBx.size
  have HM5 := Go.Lib.hid (HMA.out.below hBx)
  have HV5 := Go.Lib.hid (HVA.out.below hBx)
  clear hBx
  go_wp2_with fail
  refine (c_toModel (B := W.heap.size) (s0 := s0) (s1 := s1) (s2 := s2) (s3 := s3) (s4 := s4) w5 hB5 HM5.out k0 k1 k2 k3 k4).mono ?_
  rintro e w6 ⟨g0, g1, g2, g3, g4, rfl, hma, hgl, hrm, hq⟩
  have HMG := Go.Lib.hid hma
  have HX6 := Go.Lib.hid (HX5.out.below hq)
  clear hq x0 x1 x2 x3 x4 hlt HM5 HV5 hma hgl hrm
  simp only [mcells, slOf]
  go_upto_region 10 with fail
  refine code_gen (R := fun wb => wb.cell? ⟨w6.heap.size, 0, none⟩ = some (.slice (some ⟨g0, 0, none⟩) s0.len s0.len) ∧ wb.cell? ⟨w6.heap.size, 1, none⟩ = some (.slice (some ⟨g1, 0, none⟩) s1.len s1.len) ∧ wb.cell? ⟨w6.heap.size, 2, none⟩ = some (.slice (some ⟨g2, 0, none⟩) s2.len s2.len) ∧ wb.cell? ⟨w6.heap.size, 3, none⟩ = some (.slice (some ⟨g3, 0, none⟩) s3.len s3.len) ∧ wb.cell? ⟨w6.heap.size, 4, none⟩ = some (.slice (some ⟨g4, 0, none⟩) s4.len s4.len) ∧ w6.heap.size < wb.heap.size ∧ Below w6.heap.size w6 wb) ⟨by simp, by simp, by simp, by simp, by simp, by simp, by go_grown⟩ ?_
  rintro w7 ⟨y0, y1, y2, y3, y4, hyl, hB7⟩
  have HX7 := Go.Lib.hid (HX6.out.below hB7)
  have HMF := Go.Lib.hid ((HMG.out.below hB7).mono hB7.size)
  generalize hgg : w6.heap.size = gx at *
  clear hB7 HMG hgg
  obtain ⟨hlt, x0, x1, x2, x3, x4, hBx⟩ := HX7.out
  have hB7 : W.heap.size ≤ w7.heap.size := hBx.size
  have HM7 := Go.Lib.hid (HMA.out.below hBx)
  have HV7 := Go.Lib.hid (HVA.out.below hBx)
  clear hBx
  clear x0 x1 x2 x3 x4 hlt HM7
  go_wp2_with fail
  refine (c_toValueS (B := W.heap.size) w7 hB7 HV7.out kl KZ.out).mono ?_
  rintro e w8 ⟨rfl, ⟨gs', hov⟩, -, hq⟩
  have HVH := Go.Lib.hid (hov.vals (cap := zss.length) (Nat.le_refl _) (by unfold maxLen; omega))
  have HMH := Go.Lib.hid ((HMF.out.below hq).mono hq.size)
  have HX8 := Go.Lib.hid (HX7.out.below hq)
  have hyl8 := Nat.lt_of_lt_of_le hyl hq.size
  replace y0 := keepc hq hyl y0
  replace y1 := keepc hq hyl y1
  replace y2 := keepc hq hyl y2
  replace y3 := keepc hq hyl y3
  replace y4 := keepc hq hyl y4
  generalize hgv : w7.heap.size = gw at *
  clear hq HV7 hov HMF hgv hyl
  go_wp2_with fail
  refine (c_StateCodeI (B := w8.heap.size) w8 (Nat.le_refl _) HMH.out HVH.out).mono ?_
  rintro e w9 ⟨q2, p2, rfl, hq2, hq⟩
  obtain ⟨rfl, rfl⟩ := PackIs.inj hq2 HC.out
  clear hq2 HC
  have z0 := keepc hq hyl8 y0
  have z1 := keepc hq hyl8 y1
  have z2 := keepc hq hyl8 y2
  have z3 := keepc hq hyl8 y3
  have z4 := keepc hq hyl8 y4
  have hyl9 := Nat.lt_of_lt_of_le hyl8 hq.size
  have HMJ := Go.Lib.hid ((HMH.out.below hq).mono hq.size)
  have HVJ := Go.Lib.hid ((HVH.out.below hq).mono hq.size)
  have HX9 := Go.Lib.hid (HX8.out.below hq)
  clear hq y0 y1 y2 y3 y4 HMH HVH
  obtain ⟨hlt, x0, x1, x2, x3, x4, hBx⟩ := HX9.out
  have hB9 : W.heap.size ≤ w9.heap.size := hBx.size
  have HM9 := Go.Lib.hid (HMA.out.below hBx)
  have HV9 := Go.Lib.hid (HVA.out.below hBx)
  clear hBx
  go_upto_region 14 with fail
  refine wp_region_held_drew (S := (fun w' => w'.cell? ⟨W.heap.size, 0, none⟩ = some (.slice s0.a s0.len s0.cap) ∧ w'.cell? ⟨W.heap.size, 1, none⟩ = some (.slice s1.a s1.len s1.cap) ∧ w'.cell? ⟨W.heap.size, 2, none⟩ = some (.slice s2.a s2.len s2.cap) ∧ w'.cell? ⟨W.heap.size, 3, none⟩ = some (.slice s3.a s3.len s3.cap) ∧ w'.cell? ⟨W.heap.size, 4, none⟩ = some (.slice s4.a s4.len s4.cap) ∧ w'.cell? ⟨gx, 0, none⟩ = some (.slice (some ⟨g0, 0, none⟩) s0.len s0.len) ∧ w'.cell? ⟨gx, 1, none⟩ = some (.slice (some ⟨g1, 0, none⟩) s1.len s1.len) ∧ w'.cell? ⟨gx, 2, none⟩ = some (.slice (some ⟨g2, 0, none⟩) s2.len s2.len) ∧ w'.cell? ⟨gx, 3, none⟩ = some (.slice (some ⟨g3, 0, none⟩) s3.len s3.len) ∧ w'.cell? ⟨gx, 4, none⟩ = some (.slice (some ⟨g4, 0, none⟩) s4.len s4.len))) (by kernel_rfl) ?_ (fun hHeld => ?_)
  · exact ⟨keepc (by go_grown) hlt x0, keepc (by go_grown) hlt x1, keepc (by go_grown) hlt x2, keepc (by go_grown) hlt x3, keepc (by go_grown) hlt x4, keepc (by go_grown) hyl9 z0, keepc (by go_grown) hyl9 z1, keepc (by go_grown) hyl9 z2, keepc (by go_grown) hyl9 z3, keepc (by go_grown) hyl9 z4⟩
  refine tL 0 (some 48) ?_
  refine tL 1 (some 49) ?_
  refine wpAnyH_ready (rs := [2]) (by kernel_rfl) (by simp) ?_
  refine AllReadyH.cons (o := _) rfl (fun K hK => ?_) AllReadyH.nil
  go_simp
  refine (c_toModel (B := W.heap.size) (s0 := s0) (s1 := s1) (s2 := s2) (s3 := s3) (s4 := s4) _ (Nat.le_trans hB9 (by go_size)) (HM9.out.below (Below.mono (show Below w9.heap.size w9 _ by go_grown) hB9)) k0 k1 k2 k3 k4).mono ?_; rintro e w10 ⟨d0, d1, d2, d3, d4, rfl, hmd, hgl, hrm, hq⟩; have HMD := Go.Lib.hid hmd; have hb7 : Below w9.heap.size w9 w10 := bstep (by go_grown) (Nat.le_refl _) hq; have ht7 := hb7.size; clear hq hmd hgl hrm
  (try go_wp2_with fail)
  (try clear hHeld)
  refine hK.out _ _ ?_ (fun hHeld => ?_)
  · exact ⟨keepc (by go_grown) hlt x0, keepc (by go_grown) hlt x1, keepc (by go_grown) hlt x2, keepc (by go_grown) hlt x3, keepc (by go_grown) hlt x4, keepc (by go_grown) hyl9 z0, keepc (by go_grown) hyl9 z1, keepc (by go_grown) hyl9 z2, keepc (by go_grown) hyl9 z3, keepc (by go_grown) hyl9 z4⟩
  clear hK K
  (try simp only [Act.put, List.setIfInBounds_toArray, List.set_cons_zero, List.set_cons_succ])
  refine wpAnyH_ready (rs := [3]) (by kernel_rfl) (by simp) ?_
  refine AllReadyH.cons (o := _) rfl (fun K hK => ?_) AllReadyH.nil
  go_simp
  refine (c_eqModel (B := w10.heap.size) w10 (Nat.le_refl _) ((HMJ.out.below hb7).mono ht7) HMD.out).mono ?_; rintro e w11 ⟨rfl, hq⟩; have hb8 : Below w9.heap.size w9 w11 := hb7.trans (hq.mono ht7); have ht8 := hb8.size; clear hq
  (try go_wp2_with fail)
  (try clear hHeld)
  refine hK.out _ _ ?_ (fun hHeld => ?_)
  · exact ⟨keepc (by go_grown) hlt x0, keepc (by go_grown) hlt x1, keepc (by go_grown) hlt x2, keepc (by go_grown) hlt x3, keepc (by go_grown) hlt x4, keepc (by go_grown) hyl9 z0, keepc (by go_grown) hyl9 z1, keepc (by go_grown) hyl9 z2, keepc (by go_grown) hyl9 z3, keepc (by go_grown) hyl9 z4⟩
  clear hK K
  (try simp only [Act.put, List.setIfInBounds_toArray, List.set_cons_zero, List.set_cons_succ])
  refine tL 4 (some 52) ?_
  refine wpAnyH_done (by kernel_rfl) ?_ _
  clear hHeld
  go_upto_region 16 with fail
  refine code_gen (R := fun wb => Below w9.heap.size w9 wb) (by go_grown) ?_
  intro w12 hb12
  have HX12 := Go.Lib.hid (HX9.out.below hb12)
  have HVK := Go.Lib.hid ((HVJ.out.below hb12).mono hb12.size)
  have HV12 := Go.Lib.hid (HVA.out.below HX12.out.2.2.2.2.2.2)
  have hB12 : W.heap.size ≤ w12.heap.size := HX12.out.2.2.2.2.2.2.size
  clear hb12 hb7 hb8 ht7 ht8 x0 x1 x2 x3 x4 z0 z1 z2 z3 z4 hlt HM9 HV9 HMD HMJ HVJ HX9 hB9 hyl9
  go_wp2_with fail
  refine (c_toValueS (B := W.heap.size) w12 hB12 HV12.out kl KZ.out).mono ?_
  rintro e w13 ⟨rfl, ⟨gs2, hov⟩, -, hq⟩
  have HVL := Go.Lib.hid (hov.vals (cap := zss.length) (Nat.le_refl _) (by unfold maxLen; omega))
  have HVM := Go.Lib.hid ((HVK.out.below hq).mono hq.size)
  have HX13 := Go.Lib.hid (HX12.out.below hq)
  generalize hgu : w12.heap.size = gu at *
  clear hq hov hgu HVK HV12 HX12 hB12
  go_wp2_with fail
  refine (c_eqValueS (B := w13.heap.size) w13 (Nat.le_refl _) HVM.out HVL.out).mono ?_
  rintro e w14 ⟨rfl, hq⟩
  have HX14 := Go.Lib.hid (HX13.out.below hq)
  clear hq HVL HVM HX13
  go_wp2_with fail
  go_ret
  exact ⟨rfl, HX14.out.2.2.2.2.2.2⟩

set_option maxHeartbeats 8000000 in
theorem w_FnExactInputCode {s0 s1 s2 s3 s4 : SL} {M : MD} {a : Option Addr} {len cap : Nat} {zss : List (List Int)} (W : World) (h : ModelAt W.heap.size W s0 s1 s2 s3 s4 M) (hv : ValsAt W.heap.size W a len cap zss) :
    Calls Tryz.prog 9 #[.agg (mcells s0 s1 s2 s3 s4).toArray, .slice a len cap] W fun e w' => e = .returned (.bool true) ∧ Below W.heap.size W w' := by
  have HMA := Go.Lib.hid h
  have HVA := Go.Lib.hid hv
  obtain rfl : zss.length = len := hv.length
  clear h hv
  simp only [mcells]
  go_enter Tryz.func9, Tryz.ntmps9
  go_upto_region 2 with fail
  refine code_gen (R := fun wb => Boxed s0 s1 s2 s3 s4 W wb) (Boxed.new _ _ _ _ _ _ _) ?_
  intro w0 hbox
  have HX0 := Go.Lib.hid hbox
  clear hbox
  obtain ⟨hlt, x0, x1, x2, x3, x4, hBx⟩ := HX0.out
  have hB0 : W.heap.size ≤ w0.heap.size := hBx.size
  have HM0 := Go.Lib.hid (HMA.out.below hBx)
  have HV0 := Go.Lib.hid (HVA.out.below hBx)
  clear hBx
  go_wp2_with fail
  refine (c_szModelL (B := W.heap.size) (s0 := s0) (s1 := s1) (s2 := s2) (s3 := s3) (s4 := s4) w0 hB0 HM0.out).mono ?_
  rintro e w1 ⟨r, rfl, hrl, hr, hq⟩
  have HX1 := Go.Lib.hid (HX0.out.below hq)
  clear hq x0 x1 x2 x3 x4 hlt HM0 HV0
  by_cases hn : r < 0
  · clear hr
    go_wp2_with fail
    go_ret
    exact ⟨rfl, HX1.out.2.2.2.2.2.2⟩
  obtain ⟨k0, k1, k2, k3, k4⟩ := hr (by omega)
  clear hr
  obtain ⟨hlt, x0, x1, x2, x3, x4, hBx⟩ := HX1.out
  have hB1 : W.heap.size ≤ w1.heap.size := hBx.size
  have HM1 := Go.Lib.hid (HMA.out.below hBx)
  have HV1 := Go.Lib.hid (HVA.out.below hBx)
  clear hBx
  go_wp2_with fail
  refine (c_szValueS (B := W.heap.size) r (by omega) hrl w1 hB1 HV1.out).mono ?_
  rintro e w2 ⟨r2, rfl, hr0, hr1, hr, hq⟩
  have HX2 := Go.Lib.hid (HX1.out.below hq)
  clear hq x0 x1 x2 x3 x4 hlt HM1 HV1
  by_cases hn2 : r2 < 0
  · clear hr
    go_wp2_with fail
    go_ret
    exact ⟨rfl, HX2.out.2.2.2.2.2.2⟩
  have kl : zss.length ≤ 1048576 := by have := (hr (by omega)).1; omega
  have KZ := Go.Lib.hid (show ∀ k, k < zss.length → ((zss.getD k []).length : Int) ≤ 1048576 from fun k hk => by have := (hr (by omega)).2 k hk; omega)
  clear hr
  obtain ⟨hlt, x0, x1, x2, x3, x4, hBx⟩ := HX2.out
  have hB2 : W.heap.size ≤ w2.heap.size := hBx.size
  have HM2 := Go.Lib.hid (HMA.out.below hBx)
  have HV2 := Go.Lib.hid (HVA.out.below hBx)
  clear hBx
  go_wp2_with fail
  refine (c_toModel (B := W.heap.size) (s0 := s0) (s1 := s1) (s2 := s2) (s3 := s3) (s4 := s4) w2 hB2 HM2.out k0 k1 k2 k3 k4).mono ?_
  rintro e w3 ⟨a0, a1, a2, a3, a4, rfl, hma, hgl, hrm, hq⟩
  have HMX := Go.Lib.hid hma
  have HX3 := Go.Lib.hid (HX2.out.below hq)
  clear hq x0 x1 x2 x3 x4 hlt HM2 HV2 hma hgl hrm
  obtain ⟨hlt, x0, x1, x2, x3, x4, hBx⟩ := HX3.out
  have hB3 : W.heap.size ≤ w3.heap.size := hBx.size
  have HM3 := Go.Lib.hid (HMA.out.below hBx)
  have HV3 := Go.Lib.hid (HVA.out.below hBx)
  clear hBx
  go_wp2_with fail
  refine (c_toValueS (B := W.heap.size) w3 hB3 HV3.out kl KZ.out).mono ?_
  rintro e w4 ⟨rfl, ⟨gs, hov⟩, -, hq⟩
  have HVX := Go.Lib.hid (hov.vals (cap := zss.length) (Nat.le_refl _) (by unfold maxLen; omega))
  have HMY := Go.Lib.hid ((HMX.out.below hq).mono hq.size)
  have HX4 := Go.Lib.hid (HX3.out.below hq)
  generalize hgv : w3.heap.size = gv at *
  clear hq x0 x1 x2 x3 x4 hlt HM3 HV3 hov HMX hgv
  go_wp2_with fail
  refine (c_InputCodeS (B := w4.heap.size) w4 (Nat.le_refl _) HMY.out HVX.out).mono ?_
  rintro e w5 ⟨q1, p1, rfl, hq1, hq⟩
  have HC := Go.Lib.hid hq1
  have HX5 := Go.Lib.hid (HX4.out.below hq)
  clear hq hq1 HMY HVX HX4
  obtain ⟨hlt, x0, x1, x2, x3, x4, hBx⟩ := HX5.out
  have hB5 : W.heap.size ≤ w5.heap.size := hBx.size
  have HM5 := Go.Lib.hid (HMA.out.below hBx)
  have HV5 := Go.Lib.hid (HVA.out.below hBx)
  clear hBx
  go_wp2_with fail
  refine (c_toModel (B := W.heap.size) (s0 := s0) (s1 := s1) (s2 := s2) (s3 := s3) (s4 := s4) w5 hB5 HM5.out k0 k1 k2 k3 k4).mono ?_
  rintro e w6 ⟨g0, g1, g2, g3, g4, rfl, hma, hgl, hrm, hq⟩
  have HMG := Go.Lib.hid hma
  have HX6 := Go.Lib.hid (HX5.out.below hq)
  clear hq x0 x1 x2 x3 x4 hlt HM5 HV5 hma hgl hrm
  simp only [mcells, slOf]
  go_upto_region 10 with fail
  refine code_gen (R := fun wb => wb.cell? ⟨w6.heap.size, 0, none⟩ = some (.slice (some ⟨g0, 0, none⟩) s0.len s0.len) ∧ wb.cell? ⟨w6.heap.size, 1, none⟩ = some (.slice (some ⟨g1, 0, none⟩) s1.len s1.len) ∧ wb.cell? ⟨w6.heap.size, 2, none⟩ = some (.slice (some ⟨g2, 0, none⟩) s2.len s2.len) ∧ wb.cell? ⟨w6.heap.size, 3, none⟩ = some (.slice (some ⟨g3, 0, none⟩) s3.len s3.len) ∧ wb.cell? ⟨w6.heap.size, 4, none⟩ = some (.slice (some ⟨g4, 0, none⟩) s4.len s4.len) ∧ w6.heap.size < wb.heap.size ∧ Below w6.heap.size w6 wb) ⟨by simp, by simp, by simp, by simp, by simp, by simp, by go_grown⟩ ?_
  rintro w7 ⟨y0, y1, y2, y3, y4, hyl, hB7⟩
  have HX7 := Go.Lib.hid (HX6.out.below hB7)
  have HMF := Go.Lib.hid ((HMG.out.below hB7).mono hB7.size)
  generalize hgg : w6.heap.size = gx at *
  clear hB7 HMG hgg
  obtain ⟨hlt, x0, x1, x2, x3, x4, hBx⟩ := HX7.out
  have hB7 : W.heap.size ≤ w7.heap.size := hBx.size
  have HM7 := Go.Lib.hid (HMA.out.below hBx)
  have HV7 := Go.Lib.hid (HVA.out.below hBx)
  clear hBx
  clear x0 x1 x2 x3 x4 hlt HM7
  go_wp2_with fail
  refine (c_toValueS (B := W.heap.size) w7 hB7 HV7.out kl KZ.out).mono ?_
  rintro e w8 ⟨rfl, ⟨gs', hov⟩, -, hq⟩
  have HVH := Go.Lib.hid (hov.vals (cap := zss.length) (Nat.le_refl _) (by unfold maxLen; omega))
  have HMH := Go.Lib.hid ((HMF.out.below hq).mono hq.size)
  have HX8 := Go.Lib.hid (HX7.out.below hq)
  have hyl8 := Nat.lt_of_lt_of_le hyl hq.size
  replace y0 := keepc hq hyl y0
  replace y1 := keepc hq hyl y1
  replace y2 := keepc hq hyl y2
  replace y3 := keepc hq hyl y3
  replace y4 := keepc hq hyl y4
  generalize hgv : w7.heap.size = gw at *
  clear hq HV7 hov HMF hgv hyl
  go_wp2_with fail
  refine (c_InputCodeI (B := w8.heap.size) w8 (Nat.le_refl _) HMH.out HVH.out).mono ?_
  rintro e w9 ⟨q2, p2, rfl, hq2, hq⟩
  obtain ⟨rfl, rfl⟩ := PackIs.inj hq2 HC.out
  clear hq2 HC
  have z0 := keepc hq hyl8 y0
  have z1 := keepc hq hyl8 y1
  have z2 := keepc hq hyl8 y2
  have z3 := keepc hq hyl8 y3
  have z4 := keepc hq hyl8 y4
  have hyl9 := Nat.lt_of_lt_of_le hyl8 hq.size
  have HMJ := Go.Lib.hid ((HMH.out.below hq).mono hq.size)
  have HVJ := Go.Lib.hid ((HVH.out.below hq).mono hq.size)
  have HX9 := Go.Lib.hid (HX8.out.below hq)
  clear hq y0 y1 y2 y3 y4 HMH HVH
  obtain ⟨hlt, x0, x1, x2, x3, x4, hBx⟩ := HX9.out
  have hB9 : W.heap.size ≤ w9.heap.size := hBx.size
  have HM9 := Go.Lib.hid (HMA.out.below hBx)
  have HV9 := Go.Lib.hid (HVA.out.below hBx)
  clear hBx
  go_upto_region 14 with fail
  refine wp_region_held_drew (S := (fun w' => w'.cell? ⟨W.heap.size, 0, none⟩ = some (.slice s0.a s0.len s0.cap) ∧ w'.cell? ⟨W.heap.size, 1, none⟩ = some (.slice s1.a s1.len s1.cap) ∧ w'.cell? ⟨W.heap.size, 2, none⟩ = some (.slice s2.a s2.len s2.cap) ∧ w'.cell? ⟨W.heap.size, 3, none⟩ = some (.slice s3.a s3.len s3.cap) ∧ w'.cell? ⟨W.heap.size, 4, none⟩ = some (.slice s4.a s4.len s4.cap) ∧ w'.cell? ⟨gx, 0, none⟩ = some (.slice (some ⟨g0, 0, none⟩) s0.len s0.len) ∧ w'.cell? ⟨gx, 1, none⟩ = some (.slice (some ⟨g1, 0, none⟩) s1.len s1.len) ∧ w'.cell? ⟨gx, 2, none⟩ = some (.slice (some ⟨g2, 0, none⟩) s2.len s2.len) ∧ w'.cell? ⟨gx, 3, none⟩ = some (.slice (some ⟨g3, 0, none⟩) s3.len s3.len) ∧ w'.cell? ⟨gx, 4, none⟩ = some (.slice (some ⟨g4, 0, none⟩) s4.len s4.len))) (by kernel_rfl) ?_ (fun hHeld => ?_)
  · exact ⟨keepc (by go_grown) hlt x0, keepc (by go_grown) hlt x1, keepc (by go_grown) hlt x2, keepc (by go_grown) hlt x3, keepc (by go_grown) hlt x4, keepc (by go_grown) hyl9 z0, keepc (by go_grown) hyl9 z1, keepc (by go_grown) hyl9 z2, keepc (by go_grown) hyl9 z3, keepc (by go_grown) hyl9 z4⟩
  refine tL 0 (some 48) ?_
  refine tL 1 (some 49) ?_
  refine wpAnyH_ready (rs := [2]) (by kernel_rfl) (by simp) ?_
  refine AllReadyH.cons (o := _) rfl (fun K hK => ?_) AllReadyH.nil
  go_simp
  refine (c_toModel (B := W.heap.size) (s0 := s0) (s1 := s1) (s2 := s2) (s3 := s3) (s4 := s4) _ (Nat.le_trans hB9 (by go_size)) (HM9.out.below (Below.mono (show Below w9.heap.size w9 _ by go_grown) hB9)) k0 k1 k2 k3 k4).mono ?_; rintro e w10 ⟨d0, d1, d2, d3, d4, rfl, hmd, hgl, hrm, hq⟩; have HMD := Go.Lib.hid hmd; have hb7 : Below w9.heap.size w9 w10 := bstep (by go_grown) (Nat.le_refl _) hq; have ht7 := hb7.size; clear hq hmd hgl hrm
  (try go_wp2_with fail)
  (try clear hHeld)
  refine hK.out _ _ ?_ (fun hHeld => ?_)
  · exact ⟨keepc (by go_grown) hlt x0, keepc (by go_grown) hlt x1, keepc (by go_grown) hlt x2, keepc (by go_grown) hlt x3, keepc (by go_grown) hlt x4, keepc (by go_grown) hyl9 z0, keepc (by go_grown) hyl9 z1, keepc (by go_grown) hyl9 z2, keepc (by go_grown) hyl9 z3, keepc (by go_grown) hyl9 z4⟩
  clear hK K
  (try simp only [Act.put, List.setIfInBounds_toArray, List.set_cons_zero, List.set_cons_succ])
  refine wpAnyH_ready (rs := [3]) (by kernel_rfl) (by simp) ?_
  refine AllReadyH.cons (o := _) rfl (fun K hK => ?_) AllReadyH.nil
  go_simp
  refine (c_eqModel (B := w10.heap.size) w10 (Nat.le_refl _) ((HMJ.out.below hb7).mono ht7) HMD.out).mono ?_; rintro e w11 ⟨rfl, hq⟩; have hb8 : Below w9.heap.size w9 w11 := hb7.trans (hq.mono ht7); have ht8 := hb8.size; clear hq
  (try go_wp2_with fail)
  (try clear hHeld)
  refine hK.out _ _ ?_ (fun hHeld => ?_)
  · exact ⟨keepc (by go_grown) hlt x0, keepc (by go_grown) hlt x1, keepc (by go_grown) hlt x2, keepc (by go_grown) hlt x3, keepc (by go_grown) hlt x4, keepc (by go_grown) hyl9 z0, keepc (by go_grown) hyl9 z1, keepc (by go_grown) hyl9 z2, keepc (by go_grown) hyl9 z3, keepc (by go_grown) hyl9 z4⟩
  clear hK K
  (try simp only [Act.put, List.setIfInBounds_toArray, List.set_cons_zero, List.set_cons_succ])
  refine tL 4 (some 52) ?_
  refine wpAnyH_done (by kernel_rfl) ?_ _
  clear hHeld
  go_upto_region 16 with fail
  refine code_gen (R := fun wb => Below w9.heap.size w9 wb) (by go_grown) ?_
  intro w12 hb12
  have HX12 := Go.Lib.hid (HX9.out.below hb12)
  have HVK := Go.Lib.hid ((HVJ.out.below hb12).mono hb12.size)
  have HV12 := Go.Lib.hid (HVA.out.below HX12.out.2.2.2.2.2.2)
  have hB12 : W.heap.size ≤ w12.heap.size := HX12.out.2.2.2.2.2.2.size
  clear hb12 hb7 hb8 ht7 ht8 x0 x1 x2 x3 x4 z0 z1 z2 z3 z4 hlt HM9 HV9 HMD HMJ HVJ HX9 hB9 hyl9
  go_wp2_with fail
  refine (c_toValueS (B := W.heap.size) w12 hB12 HV12.out kl KZ.out).mono ?_
  rintro e w13 ⟨rfl, ⟨gs2, hov⟩, -, hq⟩
  have HVL := Go.Lib.hid (hov.vals (cap := zss.length) (Nat.le_refl _) (by unfold maxLen; omega))
  have HVM := Go.Lib.hid ((HVK.out.below hq).mono hq.size)
  have HX13 := Go.Lib.hid (HX12.out.below hq)
  generalize hgu : w12.heap.size = gu at *
  clear hq hov hgu HVK HV12 HX12 hB12
  go_wp2_with fail
  refine (c_eqValueS (B := w13.heap.size) w13 (Nat.le_refl _) HVM.out HVL.out).mono ?_
  rintro e w14 ⟨rfl, hq⟩
  have HX14 := Go.Lib.hid (HX13.out.below hq)
  clear hq HVL HVM HX13
  go_wp2_with fail
  go_ret
  exact ⟨rfl, HX14.out.2.2.2.2.2.2⟩
end Go.Proofs.YtapecdkdkoobgaaGreat
