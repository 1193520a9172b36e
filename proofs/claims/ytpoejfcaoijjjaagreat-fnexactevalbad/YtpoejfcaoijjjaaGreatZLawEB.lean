/-
  Parts: LawEB, shortened.
-/
import Derived.Test.YtpoejfcaoijjjaaGreatZEvG
namespace Go.Proofs.YtpoejfcaoijjjaaGreat
open Go.Lib
open Go.ChangeShapes Go.WideShapes Go.ChangeAt Go.RowKit Go.Maps
set_option linter.unusedVariables false
set_option maxRecDepth 100000
set_option maxHeartbeats 16000000 in
theorem w_FnExactEvalBad {s0 s1 s2 s3 s4 : SL} {M : MD} {a b : Option Addr} {len cap ln cp : Nat} {zss yss : List (List Int)} (W : World) (h : ModelAt W.heap.size W s0 s1 s2 s3 s4 M) (hv : ValsAt W.heap.size W a len cap zss) (hu : ValsAt W.heap.size W b ln cp yss) :
  Calls Tryz.prog 5 #[.agg (mcells s0 s1 s2 s3 s4).toArray, .slice a len cap, .slice b ln cp] W fun e w' => e = .returned (.bool true) ∧ Below W.heap.size W w' := by
 have HMA := hid h
 have HVA := hid hv
 have HUA := hid hu
 obtain rfl : zss.length = len := hv.length
 obtain rfl : yss.length = ln := hu.length
 clear h hv hu
 simp only [mcells]
 go_enter Tryz.func5, Tryz.ntmps5
 go_upto_region 2 with fail
 refine code_gen (R := fun wb => Boxed s0 s1 s2 s3 s4 W wb) (Boxed.new _ _ _ _ _ _ _) ?_
 intro w0 hbox
 have HX0 := hid hbox
 clear hbox
 obtain ⟨hlt, x0, x1, x2, x3, x4, hBx⟩ := HX0.out
 have hB0 : W.heap.size ≤ w0.heap.size := hBx.size
 have HM0 := hid (HMA.out.below hBx)
 have HV0 := hid (HVA.out.below hBx)
 have HU0 := hid (HUA.out.below hBx)
 clear hBx
 go_wp2_with fail
 refine (c_szModelL (B := W.heap.size) (s0 := s0) (s1 := s1) (s2 := s2) (s3 := s3) (s4 := s4) w0 hB0 HM0.out).mono ?_
 rintro e w1 ⟨r, rfl, hrl, hr, hq⟩
 have HX1 := hid (HX0.out.below hq)
 clear hq x0 x1 x2 x3 x4 hlt HM0 HV0 HU0
 by_cases hn : r < 0
 ·clear hr
  go_wp2_with fail
  go_ret
  exact ⟨rfl, HX1.out.2.2.2.2.2.2⟩
 obtain ⟨k0, k1, k2, k3, k4⟩ := hr (by omega)
 clear hr
 obtain ⟨hlt, x0, x1, x2, x3, x4, hBx⟩ := HX1.out
 have hB1 : W.heap.size ≤ w1.heap.size := hBx.size
 have HM1 := hid (HMA.out.below hBx)
 have HV1 := hid (HVA.out.below hBx)
 have HU1 := hid (HUA.out.below hBx)
 clear hBx
 go_wp2_with fail
 refine (c_szValueS (B := W.heap.size) r (by omega) (by omega) w1 hB1 HV1.out).mono ?_
 rintro e w2 ⟨r2, rfl, hr20, hr21, hr, hq⟩
 have HX2 := hid (HX1.out.below hq)
 clear hq x0 x1 x2 x3 x4 hlt HM1 HV1 HU1
 by_cases hn1 : r2 < 0
 ·clear hr
  go_wp2_with fail
  go_ret
  exact ⟨rfl, HX2.out.2.2.2.2.2.2⟩
 have klzss : zss.length ≤ 1048576 := by have := (hr (by omega)).1; omega
 have KZzss := hid (show ∀ k, k < zss.length → ((zss.getD k []).length : Int) ≤ 1048576 from fun k hk => by have := (hr (by omega)).2 k hk; omega)
 clear hr
 obtain ⟨hlt, x0, x1, x2, x3, x4, hBx⟩ := HX2.out
 have hB2 : W.heap.size ≤ w2.heap.size := hBx.size
 have HM2 := hid (HMA.out.below hBx)
 have HV2 := hid (HVA.out.below hBx)
 have HU2 := hid (HUA.out.below hBx)
 clear hBx
 go_wp2_with fail
 refine (c_szValueS (B := W.heap.size) r2 (by omega) (by omega) w2 hB2 HU2.out).mono ?_
 rintro e w3 ⟨r3, rfl, hr30, hr31, hr, hq⟩
 have HX3 := hid (HX2.out.below hq)
 clear hq x0 x1 x2 x3 x4 hlt HM2 HV2 HU2
 by_cases hn2 : r3 < 0
 ·clear hr
  go_wp2_with fail
  go_ret
  exact ⟨rfl, HX3.out.2.2.2.2.2.2⟩
 have klyss : yss.length ≤ 1048576 := by have := (hr (by omega)).1; omega
 have KZyss := hid (show ∀ k, k < yss.length → ((yss.getD k []).length : Int) ≤ 1048576 from fun k hk => by have := (hr (by omega)).2 k hk; omega)
 clear hr
 obtain ⟨hlt, x0, x1, x2, x3, x4, hBx⟩ := HX3.out
 have hB3 : W.heap.size ≤ w3.heap.size := hBx.size
 have HM3 := hid (HMA.out.below hBx)
 have HV3 := hid (HVA.out.below hBx)
 have HU3 := hid (HUA.out.below hBx)
 clear hBx
 go_wp2_with fail
 refine (c_toModel (B := W.heap.size) (s0 := s0) (s1 := s1) (s2 := s2) (s3 := s3) (s4 := s4) w3 hB3 HM3.out k0 k1 k2 k3 k4).mono ?_
 rintro e w4 ⟨a0, a1, a2, a3, a4, rfl, hma, hgl, hrm, hq⟩
 have HMX := hid hma
 have HX4 := hid (HX3.out.below hq)
 clear hq x0 x1 x2 x3 x4 hlt HM3 HV3 HU3 hma hgl hrm
 obtain ⟨hlt, x0, x1, x2, x3, x4, hBx⟩ := HX4.out
 have hB4 : W.heap.size ≤ w4.heap.size := hBx.size
 have HM4 := hid (HMA.out.below hBx)
 have HV4 := hid (HVA.out.below hBx)
 have HU4 := hid (HUA.out.below hBx)
 clear hBx
 go_wp2_with fail
 refine (c_toValueS (B := W.heap.size) w4 hB4 HV4.out klzss KZzss.out).mono ?_
 rintro e w5 ⟨rfl, ⟨gs4, hov⟩, -, hq⟩
 have HVX := hid (hov.vals (cap := zss.length) (Nat.le_refl _) (by unfold maxLen; omega))
 have HMY := hid ((HMX.out.below hq).mono hq.size)
 have HX5 := hid (HX4.out.below hq)
 generalize hgv4 : w4.heap.size = gv4 at *
 clear hq x0 x1 x2 x3 x4 hlt HM4 HV4 HU4 hov HMX hgv4
 obtain ⟨hlt, x0, x1, x2, x3, x4, hBx⟩ := HX5.out
 have hB5 : W.heap.size ≤ w5.heap.size := hBx.size
 have HM5 := hid (HMA.out.below hBx)
 have HV5 := hid (HVA.out.below hBx)
 have HU5 := hid (HUA.out.below hBx)
 clear hBx
 go_wp2_with fail
 refine (c_toValueS (B := W.heap.size) w5 hB5 HU5.out klyss KZyss.out).mono ?_
 rintro e w6 ⟨rfl, ⟨gs5, hov⟩, -, hq⟩
 have HUX := hid (hov.vals (cap := yss.length) (Nat.le_refl _) (by unfold maxLen; omega))
 have HMZ := hid ((HMY.out.below hq).mono hq.size)
 have HVY := hid ((HVX.out.below hq).mono hq.size)
 have HX6 := hid (HX5.out.below hq)
 generalize hgv5 : w5.heap.size = gv5 at *
 clear hq x0 x1 x2 x3 x4 hlt HM5 HV5 HU5 hov HMY HVX hgv5
 go_wp2_with fail
 refine (c_EvalBadS (B := w6.heap.size) w6 (Nat.le_refl _) HMZ.out HVY.out HUX.out).mono ?_
 rintro e w7 ⟨q1, rfl, hq1, hq⟩
 have HC := hid hq1
 have HX7 := hid (HX6.out.below hq)
 clear hq hq1 HMZ HVY HUX HX6
 obtain ⟨hlt, x0, x1, x2, x3, x4, hBx⟩ := HX7.out
 have hB7 : W.heap.size ≤ w7.heap.size := hBx.size
 have HM7 := hid (HMA.out.below hBx)
 have HV7 := hid (HVA.out.below hBx)
 have HU7 := hid (HUA.out.below hBx)
 clear hBx
 go_wp2_with fail
 refine (c_toModel (B := W.heap.size) (s0 := s0) (s1 := s1) (s2 := s2) (s3 := s3) (s4 := s4) w7 hB7 HM7.out k0 k1 k2 k3 k4).mono ?_
 rintro e w8 ⟨g0, g1, g2, g3, g4, rfl, hma, hgl, hrm, hq⟩
 have HMG := hid hma
 have HX8 := hid (HX7.out.below hq)
 clear hq x0 x1 x2 x3 x4 hlt HM7 HV7 HU7 hma hgl hrm
 simp only [mcells, slOf]
 go_upto_region 13 with fail
 refine code_gen (R := fun wb => wb.cell? ⟨w8.heap.size, 0, none⟩ = some (.slice (some ⟨g0, 0, none⟩) s0.len s0.len) ∧ wb.cell? ⟨w8.heap.size, 1, none⟩ = some (.slice (some ⟨g1, 0, none⟩) s1.len s1.len) ∧ wb.cell? ⟨w8.heap.size, 2, none⟩ = some (.slice (some ⟨g2, 0, none⟩) s2.len s2.len) ∧ wb.cell? ⟨w8.heap.size, 3, none⟩ = some (.slice (some ⟨g3, 0, none⟩) s3.len s3.len) ∧ wb.cell? ⟨w8.heap.size, 4, none⟩ = some (.slice (some ⟨g4, 0, none⟩) s4.len s4.len) ∧ w8.heap.size < wb.heap.size ∧ Below w8.heap.size w8 wb) ⟨by simp, by simp, by simp, by simp, by simp, by simp, by go_grown⟩ ?_
 rintro w9 ⟨y0, y1, y2, y3, y4, hyl, hB9'⟩
 have HX9 := hid (HX8.out.below hB9')
 have HMF := hid ((HMG.out.below hB9').mono hB9'.size)
 generalize hgg : w8.heap.size = gx at *
 clear hB9' HMG hgg
 obtain ⟨hlt, x0, x1, x2, x3, x4, hBx⟩ := HX9.out
 have hB9 : W.heap.size ≤ w9.heap.size := hBx.size
 have HM9 := hid (HMA.out.below hBx)
 have HV9 := hid (HVA.out.below hBx)
 have HU9 := hid (HUA.out.below hBx)
 clear hBx
 clear x0 x1 x2 x3 x4 hlt HM9
 go_wp2_with fail
 refine (c_toValueS (B := W.heap.size) w9 hB9 HV9.out klzss KZzss.out).mono ?_
 rintro e w10 ⟨rfl, ⟨gs9, hov⟩, -, hq⟩
 have HVH := hid (hov.vals (cap := zss.length) (Nat.le_refl _) (by unfold maxLen; omega))
 have HMH := hid ((HMF.out.below hq).mono hq.size)
 have HX10 := hid (HX9.out.below hq)
 replace y0 := keepc hq hyl y0
 replace y1 := keepc hq hyl y1
 replace y2 := keepc hq hyl y2
 replace y3 := keepc hq hyl y3
 replace y4 := keepc hq hyl y4
 replace hyl := Nat.lt_of_lt_of_le hyl hq.size
 generalize hgv9 : w9.heap.size = gv9 at *
 clear hq HV9 HU9 hov HMF hgv9
 obtain ⟨hlt, x0, x1, x2, x3, x4, hBx⟩ := HX10.out
 have hB10 : W.heap.size ≤ w10.heap.size := hBx.size
 have HM10 := hid (HMA.out.below hBx)
 have HV10 := hid (HVA.out.below hBx)
 have HU10 := hid (HUA.out.below hBx)
 clear hBx
 clear x0 x1 x2 x3 x4 hlt HM10
 go_wp2_with fail
 refine (c_toValueS (B := W.heap.size) w10 hB10 HU10.out klyss KZyss.out).mono ?_
 rintro e w11 ⟨rfl, ⟨gs10, hov⟩, -, hq⟩
 have HUH := hid (hov.vals (cap := yss.length) (Nat.le_refl _) (by unfold maxLen; omega))
 have HMI := hid ((HMH.out.below hq).mono hq.size)
 have HVI := hid ((HVH.out.below hq).mono hq.size)
 have HX11 := hid (HX10.out.below hq)
 replace y0 := keepc hq hyl y0
 replace y1 := keepc hq hyl y1
 replace y2 := keepc hq hyl y2
 replace y3 := keepc hq hyl y3
 replace y4 := keepc hq hyl y4
 replace hyl := Nat.lt_of_lt_of_le hyl hq.size
 generalize hgv10 : w10.heap.size = gv10 at *
 clear hq HV10 HU10 hov HMH HVH hgv10
 go_wp2_with fail
 refine (c_EvalBadI (B := w11.heap.size) w11 (Nat.le_refl _) HMI.out HVI.out HUH.out).mono ?_
 rintro e w12 ⟨q2, rfl, hq2, hq⟩
 obtain rfl := BadOf.inj hq2 HC.out
 clear hq2 HC
 have z0 := keepc hq hyl y0
 have z1 := keepc hq hyl y1
 have z2 := keepc hq hyl y2
 have z3 := keepc hq hyl y3
 have z4 := keepc hq hyl y4
 have hyl9 := Nat.lt_of_lt_of_le hyl hq.size
 have HMJ := hid ((HMI.out.below hq).mono hq.size)
 have HVJ := hid ((HVI.out.below hq).mono hq.size)
 have HUJ := hid ((HUH.out.below hq).mono hq.size)
 have HX12 := hid (HX11.out.below hq)
 clear hq y0 y1 y2 y3 y4 hyl HMI HVI HUH
 obtain ⟨hlt, x0, x1, x2, x3, x4, hBx⟩ := HX12.out
 have hB12 : W.heap.size ≤ w12.heap.size := hBx.size
 have HM12 := hid (HMA.out.below hBx)
 have HV12 := hid (HVA.out.below hBx)
 have HU12 := hid (HUA.out.below hBx)
 clear hBx
 go_upto_region 18 with fail
 refine wp_region_held_drew (S := (fun w' => w'.cell? ⟨W.heap.size, 0, none⟩ = some (.slice s0.a s0.len s0.cap) ∧ w'.cell? ⟨W.heap.size, 1, none⟩ = some (.slice s1.a s1.len s1.cap) ∧ w'.cell? ⟨W.heap.size, 2, none⟩ = some (.slice s2.a s2.len s2.cap) ∧ w'.cell? ⟨W.heap.size, 3, none⟩ = some (.slice s3.a s3.len s3.cap) ∧ w'.cell? ⟨W.heap.size, 4, none⟩ = some (.slice s4.a s4.len s4.cap) ∧ w'.cell? ⟨gx, 0, none⟩ = some (.slice (some ⟨g0, 0, none⟩) s0.len s0.len) ∧ w'.cell? ⟨gx, 1, none⟩ = some (.slice (some ⟨g1, 0, none⟩) s1.len s1.len) ∧ w'.cell? ⟨gx, 2, none⟩ = some (.slice (some ⟨g2, 0, none⟩) s2.len s2.len) ∧ w'.cell? ⟨gx, 3, none⟩ = some (.slice (some ⟨g3, 0, none⟩) s3.len s3.len) ∧ w'.cell? ⟨gx, 4, none⟩ = some (.slice (some ⟨g4, 0, none⟩) s4.len s4.len))) (by kernel_rfl) ?_ (fun hHeld => ?_)
 ·exact ⟨keepc (by go_grown) hlt x0, keepc (by go_grown) hlt x1, keepc (by go_grown) hlt x2, keepc (by go_grown) hlt x3, keepc (by go_grown) hlt x4, keepc (by go_grown) hyl9 z0, keepc (by go_grown) hyl9 z1, keepc (by go_grown) hyl9 z2, keepc (by go_grown) hyl9 z3, keepc (by go_grown) hyl9 z4⟩
 refine tL 0 (some 48) ?_
 refine tL 1 (some 49) ?_
 refine wpAnyH_ready (rs := [2]) (by kernel_rfl) (by simp) ?_
 refine AllReadyH.cons (o := _) rfl (fun K hK => ?_) AllReadyH.nil
 go_simp
 refine (c_toModel (B := W.heap.size) (s0 := s0) (s1 := s1) (s2 := s2) (s3 := s3) (s4 := s4) _ (Nat.le_trans hB12 (by go_size)) (HM12.out.below (Below.mono (show Below w12.heap.size w12 _ by go_grown) hB12)) k0 k1 k2 k3 k4).mono ?_; rintro e w13 ⟨d0, d1, d2, d3, d4, rfl, hmd, hgl, hrm, hq⟩; have HMD := hid hmd; have hb7 : Below w12.heap.size w12 w13 := bstep (by go_grown) (Nat.le_refl _) hq; have ht7 := hb7.size; clear hq hmd hgl hrm
 (try go_wp2_with fail)
 (try clear hHeld)
 refine hK.out _ _ ?_ (fun hHeld => ?_)
 ·exact ⟨keepc (by go_grown) hlt x0, keepc (by go_grown) hlt x1, keepc (by go_grown) hlt x2, keepc (by go_grown) hlt x3, keepc (by go_grown) hlt x4, keepc (by go_grown) hyl9 z0, keepc (by go_grown) hyl9 z1, keepc (by go_grown) hyl9 z2, keepc (by go_grown) hyl9 z3, keepc (by go_grown) hyl9 z4⟩
 clear hK K
 (try simp only [Act.put, List.setIfInBounds_toArray, List.set_cons_zero, List.set_cons_succ])
 refine wpAnyH_ready (rs := [3]) (by kernel_rfl) (by simp) ?_
 refine AllReadyH.cons (o := _) rfl (fun K hK => ?_) AllReadyH.nil
 go_simp
 refine (c_eqModel (B := w13.heap.size) w13 (Nat.le_refl _) ((HMJ.out.below hb7).mono ht7) HMD.out).mono ?_; rintro e w14 ⟨rfl, hq⟩; have hb8 : Below w12.heap.size w12 w14 := hb7.trans (hq.mono ht7); have ht8 := hb8.size; clear hq
 (try go_wp2_with fail)
 (try clear hHeld)
 refine hK.out _ _ ?_ (fun hHeld => ?_)
 ·exact ⟨keepc (by go_grown) hlt x0, keepc (by go_grown) hlt x1, keepc (by go_grown) hlt x2, keepc (by go_grown) hlt x3, keepc (by go_grown) hlt x4, keepc (by go_grown) hyl9 z0, keepc (by go_grown) hyl9 z1, keepc (by go_grown) hyl9 z2, keepc (by go_grown) hyl9 z3, keepc (by go_grown) hyl9 z4⟩
 clear hK K
 (try simp only [Act.put, List.setIfInBounds_toArray, List.set_cons_zero, List.set_cons_succ])
 refine tL 4 (some 52) ?_
 refine wpAnyH_done (by kernel_rfl) ?_ _
 clear hHeld
 go_upto_region 20 with fail
 refine code_gen (R := fun wb => Below w12.heap.size w12 wb) (by go_grown) ?_
 intro w15 hb15
 have HX15 := hid (HX12.out.below hb15)
 have HVK := hid ((HVJ.out.below hb15).mono hb15.size)
 have HUK := hid ((HUJ.out.below hb15).mono hb15.size)
 have HV15 := hid (HVA.out.below HX15.out.2.2.2.2.2.2)
 have hB15 : W.heap.size ≤ w15.heap.size := HX15.out.2.2.2.2.2.2.size
 clear hb15 hb7 hb8 ht7 ht8 x0 x1 x2 x3 x4 z0 z1 z2 z3 z4 hlt HM12 HV12 HU12 HMD HMJ HVJ HUJ HX12 hB12 hyl9
 go_wp2_with fail
 refine (c_toValueS (B := W.heap.size) w15 hB15 HV15.out klzss KZzss.out).mono ?_
 rintro e w16 ⟨rfl, ⟨gs2, hov⟩, -, hq⟩
 have HVL := hid (hov.vals (cap := zss.length) (Nat.le_refl _) (by unfold maxLen; omega))
 have HVM := hid ((HVK.out.below hq).mono hq.size)
 have HUM := hid ((HUK.out.below hq).mono hq.size)
 have HX16 := hid (HX15.out.below hq)
 generalize hgu : w15.heap.size = gu at *
 clear hq hov hgu HVK HUK HV15 HX15 hB15
 go_wp2_with fail
 refine (c_eqValueS (B := w16.heap.size) w16 (Nat.le_refl _) HVM.out HVL.out).mono ?_
 rintro e w17 ⟨rfl, hq⟩
 have HX17 := hid (HX16.out.below hq)
 have HUN := hid ((HUM.out.below hq).mono hq.size)
 have HU17 := hid (HUA.out.below HX17.out.2.2.2.2.2.2)
 have hB17 : W.heap.size ≤ w17.heap.size := HX17.out.2.2.2.2.2.2.size
 clear hq HVL HVM HX16 HUM
 go_wp2_with fail
 refine (c_toValueS (B := W.heap.size) w17 hB17 HU17.out klyss KZyss.out).mono ?_
 rintro e w18 ⟨rfl, ⟨gs3, hov⟩, -, hq⟩
 have HUL := hid (hov.vals (cap := yss.length) (Nat.le_refl _) (by unfold maxLen; omega))
 have HUO := hid ((HUN.out.below hq).mono hq.size)
 have HX18 := hid (HX17.out.below hq)
 generalize hgu : w17.heap.size = gu at *
 clear hq hov hgu HUN HU17 HX17 hB17
 go_wp2_with fail
 refine (c_eqValueS (B := w18.heap.size) w18 (Nat.le_refl _) HUO.out HUL.out).mono ?_
 rintro e w19 ⟨rfl, hq⟩
 have HX19 := hid (HX18.out.below hq)
 clear hq HUL HUO HX18
 go_wp2_with fail
 go_ret
 exact ⟨rfl, HX19.out.2.2.2.2.2.2⟩
end Go.Proofs.YtpoejfcaoijjjaaGreat
