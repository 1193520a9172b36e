/-
  Parts: LawEA, shortened.
-/
import Derived.Test.YtlcgimadbpagfaaGreatZEvY
namespace Go.Proofs.YtlcgimadbpagfaaGreat
open Go.Lib
open Go.ChangeShapes Go.WideShapes Go.ChangeAt Go.RowKit Go.Maps
set_option linter.unusedVariables false
set_option maxRecDepth 100000
set_option maxHeartbeats 16000000 in
theorem w_FnExactEvalAll {s0 s1 s2 s3 s4 : SL} {M : MD} {q0 : Option Addr} {l0 c0 : Nat} {z0 : List (List Int)} {q1 : Option Addr} {l1 c1 : Nat} {z1 : List (List Int)} (W : World) (h : ModelAt W.heap.size W s0 s1 s2 s3 s4 M) (hv0 : ValsAt W.heap.size W q0 l0 c0 z0) (hv1 : ValsAt W.heap.size W q1 l1 c1 z1) :
  Calls Tryz.prog 3 #[.agg (mcells s0 s1 s2 s3 s4).toArray, .slice q0 l0 c0, .slice q1 l1 c1] W fun e w' => e = .returned (.bool true) ∧ Below W.heap.size W w' := by
 have HMA := hid h
 have HVA0 := hid hv0
 have HVA1 := hid hv1
 obtain rfl : z0.length = l0 := hv0.length
 obtain rfl : z1.length = l1 := hv1.length
 clear h hv0 hv1
 simp only [mcells]
 go_enter Tryz.func3, Tryz.ntmps3
 go_upto_region 2 with fail
 refine code_gen (R := fun wb => Boxed s0 s1 s2 s3 s4 W wb) (Boxed.new _ _ _ _ _ _ _) ?_
 intro w0 hbox
 have HX := hid hbox
 clear hbox
 obtain ⟨hlt, x0, x1, x2, x3, x4, hBx⟩ := HX.out
 have hB : W.heap.size ≤ w0.heap.size := hBx.size
 have HM := hid (HMA.out.below hBx)
 have HV0 := hid (HVA0.out.below hBx)
 have HV1 := hid (HVA1.out.below hBx)
 clear hBx
 go_wp2_with fail
 refine (c_szModelL (B := W.heap.size) (s0 := s0) (s1 := s1) (s2 := s2) (s3 := s3) (s4 := s4) w0 hB HM.out).mono ?_
 rintro e w1 ⟨r, rfl, hrl, hr, hq⟩
 replace HX := hid (HX.out.below hq)
 clear x0 x1 x2 x3 x4 hlt hB HM HV0 HV1
 clear hq
 by_cases hn : r < 0
 ·clear hr
  go_wp2_with fail
  go_ret
  exact ⟨rfl, HX.out.2.2.2.2.2.2⟩
 obtain ⟨k0, k1, k2, k3, k4⟩ := hr (by omega)
 clear hr
 obtain ⟨hlt, x0, x1, x2, x3, x4, hBx⟩ := HX.out
 have hB : W.heap.size ≤ w1.heap.size := hBx.size
 have HM := hid (HMA.out.below hBx)
 have HV0 := hid (HVA0.out.below hBx)
 have HV1 := hid (HVA1.out.below hBx)
 clear hBx
 go_wp2_with fail
 refine (c_szValueS (B := W.heap.size) r (by omega) (by omega) w1 hB HV0.out).mono ?_
 rintro e w2 ⟨r2, rfl, hr20, hr21, hr, hq⟩
 replace HX := hid (HX.out.below hq)
 clear x0 x1 x2 x3 x4 hlt hB HM HV0 HV1
 clear hq
 by_cases hn0 : r2 < 0
 ·clear hr
  go_wp2_with fail
  go_ret
  exact ⟨rfl, HX.out.2.2.2.2.2.2⟩
 have kl0 : z0.length ≤ 1048576 := by have := (hr (by omega)).1; omega
 have KZ0 := hid (show ∀ k, k < z0.length → ((z0.getD k []).length : Int) ≤ 1048576 from fun k hk => by have := (hr (by omega)).2 k hk; omega)
 clear hr
 obtain ⟨hlt, x0, x1, x2, x3, x4, hBx⟩ := HX.out
 have hB : W.heap.size ≤ w2.heap.size := hBx.size
 have HM := hid (HMA.out.below hBx)
 have HV0 := hid (HVA0.out.below hBx)
 have HV1 := hid (HVA1.out.below hBx)
 clear hBx
 go_wp2_with fail
 refine (c_szValueS (B := W.heap.size) r2 (by omega) (by omega) w2 hB HV1.out).mono ?_
 rintro e w3 ⟨r3, rfl, hr30, hr31, hr, hq⟩
 replace HX := hid (HX.out.below hq)
 clear x0 x1 x2 x3 x4 hlt hB HM HV0 HV1
 clear hq
 by_cases hn1 : r3 < 0
 ·clear hr
  go_wp2_with fail
  go_ret
  exact ⟨rfl, HX.out.2.2.2.2.2.2⟩
 have kl1 : z1.length ≤ 1048576 := by have := (hr (by omega)).1; omega
 have KZ1 := hid (show ∀ k, k < z1.length → ((z1.getD k []).length : Int) ≤ 1048576 from fun k hk => by have := (hr (by omega)).2 k hk; omega)
 clear hr
 obtain ⟨hlt, x0, x1, x2, x3, x4, hBx⟩ := HX.out
 have hB : W.heap.size ≤ w3.heap.size := hBx.size
 have HM := hid (HMA.out.below hBx)
 have HV0 := hid (HVA0.out.below hBx)
 have HV1 := hid (HVA1.out.below hBx)
 clear hBx
 go_wp2_with fail
 refine (c_toModel (B := W.heap.size) (s0 := s0) (s1 := s1) (s2 := s2) (s3 := s3) (s4 := s4) w3 hB HM.out k0 k1 k2 k3 k4).mono ?_
 rintro e w4 ⟨a0, a1, a2, a3, a4, rfl, hma, hgl, hrm, hq⟩
 replace HX := hid (HX.out.below hq)
 clear x0 x1 x2 x3 x4 hlt hB HM HV0 HV1
 have HMX := hid hma
 clear hq hma hgl hrm
 obtain ⟨hlt, x0, x1, x2, x3, x4, hBx⟩ := HX.out
 have hB : W.heap.size ≤ w4.heap.size := hBx.size
 have HM := hid (HMA.out.below hBx)
 have HV0 := hid (HVA0.out.below hBx)
 have HV1 := hid (HVA1.out.below hBx)
 clear hBx
 go_wp2_with fail
 refine (c_toValueS (B := W.heap.size) w4 hB HV0.out kl0 KZ0.out).mono ?_
 rintro e w5 ⟨rfl, ⟨gs, hov⟩, -, hq⟩
 replace HX := hid (HX.out.below hq)
 replace HMX := hid ((HMX.out.below hq).mono hq.size)
 clear x0 x1 x2 x3 x4 hlt hB HM HV0 HV1
 have HVX0 := hid (hov.vals (cap := z0.length) (Nat.le_refl _) (by unfold maxLen; omega))
 clear hq hov
 generalize w4.heap.size = gv0 at *
 obtain ⟨hlt, x0, x1, x2, x3, x4, hBx⟩ := HX.out
 have hB : W.heap.size ≤ w5.heap.size := hBx.size
 have HM := hid (HMA.out.below hBx)
 have HV0 := hid (HVA0.out.below hBx)
 have HV1 := hid (HVA1.out.below hBx)
 clear hBx
 go_wp2_with fail
 refine (c_toValueS (B := W.heap.size) w5 hB HV1.out kl1 KZ1.out).mono ?_
 rintro e w6 ⟨rfl, ⟨gs, hov⟩, -, hq⟩
 replace HX := hid (HX.out.below hq)
 replace HMX := hid ((HMX.out.below hq).mono hq.size)
 replace HVX0 := hid ((HVX0.out.below hq).mono hq.size)
 clear x0 x1 x2 x3 x4 hlt hB HM HV0 HV1
 have HVX1 := hid (hov.vals (cap := z1.length) (Nat.le_refl _) (by unfold maxLen; omega))
 clear hq hov
 generalize w5.heap.size = gv1 at *
 obtain ⟨hlt, x0, x1, x2, x3, x4, hBx⟩ := HX.out
 have hB : W.heap.size ≤ w6.heap.size := hBx.size
 have HM := hid (HMA.out.below hBx)
 have HV0 := hid (HVA0.out.below hBx)
 have HV1 := hid (HVA1.out.below hBx)
 clear hBx
 go_wp2_with fail
 refine (c_EvalAllS (B := w6.heap.size) w6 (Nat.le_refl _) HMX.out HVX0.out HVX1.out).mono ?_
 rintro e w7 ⟨vw, xw, rfl, how, hai, hq⟩
 have hWS0 := hlt
 replace HX := hid (HX.out.below hq)
 have hWS : W.heap.size < w7.heap.size := Nat.lt_of_lt_of_le hWS0 hq.size
 clear x0 x1 x2 x3 x4 hlt hB HM HV0 HV1
 clear hWS0 hq HMX HVX0 HVX1
 have HPI := hid hai
 obtain ⟨aw, cw, rfl⟩ := how.len
 obtain ⟨zss, hzw⟩ : ∃ zss, xw.map Prod.snd = zss := ⟨_, rfl⟩
 rw [hzw] at HPI
 have HSM := hid HPI.out.small
 have hz60 : zss.length ≤ 60 := HPI.out.small.1
 have hxwl : xw.length = zss.length := by rw [← hzw, List.length_map]
 have HVW := hid (show ValsAt w7.heap.size w7 aw zss.length cw zss from by have := how.vals rfl; rw [hzw, hxwl] at this; exact this)
 rw [hxwl]
 clear how hai hzw hxwl
 have hsS : w7.heap.size ≤ w7.heap.size := Nat.le_refl _
 have HSS := hid hsS
 obtain ⟨hlt, x0, x1, x2, x3, x4, hBx⟩ := HX.out
 have hB : W.heap.size ≤ w7.heap.size := hBx.size
 have HM := hid (HMA.out.below hBx)
 have HV0 := hid (HVA0.out.below hBx)
 have HV1 := hid (HVA1.out.below hBx)
 clear hBx
 go_wp2_with fail
 refine (c_toModel (B := W.heap.size) (s0 := s0) (s1 := s1) (s2 := s2) (s3 := s3) (s4 := s4) w7 hB HM.out k0 k1 k2 k3 k4).mono ?_
 rintro e w8 ⟨g0, g1, g2, g3, g4, rfl, hma, hgl, hrm, hq⟩
 replace HX := hid (HX.out.below hq)
 replace HVW := hid (HVW.out.below (hq.mono hsS))
 replace HSS := hid (Nat.le_trans hsS hq.size)
 replace hsS := HSS.out
 clear x0 x1 x2 x3 x4 hlt hB HM HV0 HV1
 have HMG := hid hma
 have HGL := hid hgl
 have HGU := hid (show g0 < w8.heap.size ∧ g1 < w8.heap.size ∧ g2 < w8.heap.size ∧ g3 < w8.heap.size ∧ g4 < w8.heap.size from ⟨hrm.1.1, hrm.2.1.1, hrm.2.2.1.1, hrm.2.2.2.1.1, hrm.2.2.2.2.1⟩)
 have HRM := hid (show ModelRoom w8 g0 g1 g2 g3 g4 s0.len s1.len s2.len s3.len s4.len from hrm)
 have hsx : w7.heap.size ≤ w8.heap.size := hsS
 clear hq hma hgl hrm
 simp only [mcells, slOf]
 go_upto_region 13 with fail
 refine code_gen (R := fun wb => wb.cell? ⟨w8.heap.size, 0, none⟩ = some (.slice (some ⟨g0, 0, none⟩) s0.len s0.len) ∧ wb.cell? ⟨w8.heap.size, 1, none⟩ = some (.slice (some ⟨g1, 0, none⟩) s1.len s1.len) ∧ wb.cell? ⟨w8.heap.size, 2, none⟩ = some (.slice (some ⟨g2, 0, none⟩) s2.len s2.len) ∧ wb.cell? ⟨w8.heap.size, 3, none⟩ = some (.slice (some ⟨g3, 0, none⟩) s3.len s3.len) ∧ wb.cell? ⟨w8.heap.size, 4, none⟩ = some (.slice (some ⟨g4, 0, none⟩) s4.len s4.len) ∧ w8.heap.size < wb.heap.size ∧ Below w8.heap.size w8 wb) ⟨by simp, by simp, by simp, by simp, by simp, by simp, by go_grown⟩ ?_
 rintro w9 ⟨y0, y1, y2, y3, y4, hyl, hq⟩
 replace HX := hid (HX.out.below hq)
 replace HVW := hid (HVW.out.below (hq.mono hsS))
 replace HSS := hid (Nat.le_trans hsS hq.size)
 replace HMG := hid ((HMG.out.below hq).mono hq.size)
 replace HRM := hid (HRM.out.below hq)
 replace hsS := HSS.out
 clear hq
 generalize hgg : w8.heap.size = gx at *
 clear hgg
 have hx0 : gx < w9.heap.size := hyl
 obtain ⟨hlt, x0, x1, x2, x3, x4, hBx⟩ := HX.out
 have hB : W.heap.size ≤ w9.heap.size := hBx.size
 have HM := hid (HMA.out.below hBx)
 have HV0 := hid (HVA0.out.below hBx)
 have HV1 := hid (HVA1.out.below hBx)
 clear hBx
 go_wp2_with fail
 refine (c_toValueS (B := W.heap.size) w9 hB HV0.out kl0 KZ0.out).mono ?_
 rintro e w10 ⟨rfl, ⟨gs0, hov⟩, -, hq⟩
 replace HX := hid (HX.out.below hq)
 replace HVW := hid (HVW.out.below (hq.mono hsS))
 replace HSS := hid (Nat.le_trans hsS hq.size)
 replace HMG := hid ((HMG.out.below hq).mono hq.size)
 replace HRM := hid (HRM.out.below hq)
 replace y0 := keepc hq hyl y0
 replace y1 := keepc hq hyl y1
 replace y2 := keepc hq hyl y2
 replace y3 := keepc hq hyl y3
 replace y4 := keepc hq hyl y4
 replace hyl := Nat.lt_of_lt_of_le hyl hq.size
 replace hsS := HSS.out
 clear x0 x1 x2 x3 x4 hlt hB HM HV0 HV1
 have HO0 := hid hov
 have HU0 := hid hov.up
 have hx1 : w9.heap.size < w10.heap.size := hov.lt
 clear hq hov
 generalize w9.heap.size = gw0 at *
 obtain ⟨hlt, x0, x1, x2, x3, x4, hBx⟩ := HX.out
 have hB : W.heap.size ≤ w10.heap.size := hBx.size
 have HM := hid (HMA.out.below hBx)
 have HV0 := hid (HVA0.out.below hBx)
 have HV1 := hid (HVA1.out.below hBx)
 clear hBx
 go_wp2_with fail
 refine (c_toValueS (B := W.heap.size) w10 hB HV1.out kl1 KZ1.out).mono ?_
 rintro e w11 ⟨rfl, ⟨gs1, hov⟩, -, hq⟩
 replace HX := hid (HX.out.below hq)
 replace HVW := hid (HVW.out.below (hq.mono hsS))
 replace HSS := hid (Nat.le_trans hsS hq.size)
 replace HMG := hid ((HMG.out.below hq).mono hq.size)
 replace HRM := hid (HRM.out.below hq)
 replace HO0 := hid (HO0.out.below hq)
 replace y0 := keepc hq hyl y0
 replace y1 := keepc hq hyl y1
 replace y2 := keepc hq hyl y2
 replace y3 := keepc hq hyl y3
 replace y4 := keepc hq hyl y4
 replace hyl := Nat.lt_of_lt_of_le hyl hq.size
 replace hsS := HSS.out
 clear x0 x1 x2 x3 x4 hlt hB HM HV0 HV1
 have HO1 := hid hov
 have HU1 := hid hov.up
 have hx2 : w10.heap.size < w11.heap.size := hov.lt
 clear hq hov
 generalize w10.heap.size = gw1 at *
 obtain ⟨hlt, x0, x1, x2, x3, x4, hBx⟩ := HX.out
 have hB : W.heap.size ≤ w11.heap.size := hBx.size
 have HM := hid (HMA.out.below hBx)
 have HV0 := hid (HVA0.out.below hBx)
 have HV1 := hid (HVA1.out.below hBx)
 clear hBx
 go_wp2_with fail
 refine (c_EvalAllI (B := w11.heap.size) w11 (Nat.le_refl _) HMG.out (HO0.out.vals (cap := z0.length) (Nat.le_refl _) (by unfold maxLen; omega)) (HO1.out.vals (cap := z1.length) (Nat.le_refl _) (by unfold maxLen; omega))).mono ?_
 rintro e w12 ⟨vg, xg, rfl, hog, haj, hq⟩
 replace HX := hid (HX.out.below hq)
 replace HVW := hid (HVW.out.below (hq.mono hsS))
 replace HSS := hid (Nat.le_trans hsS hq.size)
 replace HMG := hid ((HMG.out.below hq).mono hq.size)
 replace HRM := hid (HRM.out.below hq)
 replace HO0 := hid (HO0.out.below hq)
 replace HO1 := hid (HO1.out.below hq)
 replace y0 := keepc hq hyl y0
 replace y1 := keepc hq hyl y1
 replace y2 := keepc hq hyl y2
 replace y3 := keepc hq hyl y3
 replace y4 := keepc hq hyl y4
 replace hyl := Nat.lt_of_lt_of_le hyl hq.size
 replace hsS := HSS.out
 clear x0 x1 x2 x3 x4 hlt hB HM HV0 HV1
 have hzg := AllIs.inj haj HPI.out
 have HOG := hid (show ValRow w11.heap.size w12 vg xg from hog)
 have HZG := hid hzg
 obtain ⟨ag, cg, rfl⟩ := hog.len
 have hxgl : xg.length = zss.length := by rw [← hzg, List.length_map]
 have HXGL := hid hxgl
 rw [hxgl] at HOG ⊢
 clear hq hog haj hzg hxgl
 obtain ⟨hlt, x0, x1, x2, x3, x4, hBx⟩ := HX.out
 have hB : W.heap.size ≤ w12.heap.size := hBx.size
 have HM := hid (HMA.out.below hBx)
 have HV0 := hid (HVA0.out.below hBx)
 have HV1 := hid (HVA1.out.below hBx)
 clear hBx
 go_wp2_with fail
 refine (c_eqValueS (B := w12.heap.size) w12 (Nat.le_refl _) (by have := HOG.out.vals HXGL.out.symm; rw [HZG.out] at this; exact this) (HVW.out.mono hsS)).mono ?_
 rintro e w13 ⟨rfl, hq⟩
 replace HX := hid (HX.out.below hq)
 replace HVW := hid (HVW.out.below (hq.mono hsS))
 replace HSS := hid (Nat.le_trans hsS hq.size)
 replace HMG := hid ((HMG.out.below hq).mono hq.size)
 replace HRM := hid (HRM.out.below hq)
 replace HO0 := hid (HO0.out.below hq)
 replace HO1 := hid (HO1.out.below hq)
 replace HOG := hid (HOG.out.below hq)
 replace y0 := keepc hq hyl y0
 replace y1 := keepc hq hyl y1
 replace y2 := keepc hq hyl y2
 replace y3 := keepc hq hyl y3
 replace y4 := keepc hq hyl y4
 replace hyl := Nat.lt_of_lt_of_le hyl hq.size
 replace hsS := HSS.out
 clear x0 x1 x2 x3 x4 hlt hB HM HV0 HV1
 clear hq
 obtain ⟨hlt, x0, x1, x2, x3, x4, hBx⟩ := HX.out
 have hB : W.heap.size ≤ w13.heap.size := hBx.size
 have HM := hid (HMA.out.below hBx)
 have HV0 := hid (HVA0.out.below hBx)
 have HV1 := hid (HVA1.out.below hBx)
 clear hBx
 go_upto_region 18 with fail
 refine wp_region_held_drew (S := (fun w' => w'.cell? ⟨W.heap.size, 0, none⟩ = some (.slice s0.a s0.len s0.cap) ∧ w'.cell? ⟨W.heap.size, 1, none⟩ = some (.slice s1.a s1.len s1.cap) ∧ w'.cell? ⟨W.heap.size, 2, none⟩ = some (.slice s2.a s2.len s2.cap) ∧ w'.cell? ⟨W.heap.size, 3, none⟩ = some (.slice s3.a s3.len s3.cap) ∧ w'.cell? ⟨W.heap.size, 4, none⟩ = some (.slice s4.a s4.len s4.cap) ∧ w'.cell? ⟨gx, 0, none⟩ = some (.slice (some ⟨g0, 0, none⟩) s0.len s0.len) ∧ w'.cell? ⟨gx, 1, none⟩ = some (.slice (some ⟨g1, 0, none⟩) s1.len s1.len) ∧ w'.cell? ⟨gx, 2, none⟩ = some (.slice (some ⟨g2, 0, none⟩) s2.len s2.len) ∧ w'.cell? ⟨gx, 3, none⟩ = some (.slice (some ⟨g3, 0, none⟩) s3.len s3.len) ∧ w'.cell? ⟨gx, 4, none⟩ = some (.slice (some ⟨g4, 0, none⟩) s4.len s4.len))) (by kernel_rfl) ?_ (fun hHeld => ?_)
 ·exact ⟨keepc (by go_grown) hlt x0, keepc (by go_grown) hlt x1, keepc (by go_grown) hlt x2, keepc (by go_grown) hlt x3, keepc (by go_grown) hlt x4, keepc (by go_grown) hyl y0, keepc (by go_grown) hyl y1, keepc (by go_grown) hyl y2, keepc (by go_grown) hyl y3, keepc (by go_grown) hyl y4⟩
 refine tL 0 (some 53) ?_
 refine tL 1 (some 54) ?_
 refine wpAnyH_ready (rs := [2]) (by kernel_rfl) (by simp) ?_
 refine .cons (o := _) rfl (fun K hK => ?_) .nil
 go_simp
 refine (c_toModel (B := W.heap.size) (s0 := s0) (s1 := s1) (s2 := s2) (s3 := s3) (s4 := s4) _ (Nat.le_trans hB (by go_size)) (HM.out.below (Below.mono (show Below w13.heap.size w13 _ by go_grown) hB)) k0 k1 k2 k3 k4).mono ?_; rintro e wt ⟨d0, d1, d2, d3, d4, rfl, hmd, hgl, hrm, hq⟩; have HMD := hid hmd; have hb7 : Below w13.heap.size w13 wt := bstep (by go_grown) (Nat.le_refl _) hq; have ht7 := hb7.size; clear hq hmd hgl hrm
 (try go_wp2_with fail)
 (try clear hHeld)
 refine hK.out _ _ ?_ (fun hHeld => ?_)
 ·exact ⟨keepc (by go_grown) hlt x0, keepc (by go_grown) hlt x1, keepc (by go_grown) hlt x2, keepc (by go_grown) hlt x3, keepc (by go_grown) hlt x4, keepc (by go_grown) hyl y0, keepc (by go_grown) hyl y1, keepc (by go_grown) hyl y2, keepc (by go_grown) hyl y3, keepc (by go_grown) hyl y4⟩
 clear hK K
 (try simp only [Act.put, zq1, zq2, zq3])
 refine wpAnyH_ready (rs := [3]) (by kernel_rfl) (by simp) ?_
 refine .cons (o := _) rfl (fun K hK => ?_) .nil
 go_simp
 refine (c_eqModel (B := wt.heap.size) wt (Nat.le_refl _) ((HMG.out.below hb7).mono ht7) HMD.out).mono ?_; rintro e we ⟨rfl, hq⟩; have hb8 : Below w13.heap.size w13 we := hb7.trans (hq.mono ht7); have ht8 := hb8.size; clear hq
 (try go_wp2_with fail)
 (try clear hHeld)
 refine hK.out _ _ ?_ (fun hHeld => ?_)
 ·exact ⟨keepc (by go_grown) hlt x0, keepc (by go_grown) hlt x1, keepc (by go_grown) hlt x2, keepc (by go_grown) hlt x3, keepc (by go_grown) hlt x4, keepc (by go_grown) hyl y0, keepc (by go_grown) hyl y1, keepc (by go_grown) hyl y2, keepc (by go_grown) hyl y3, keepc (by go_grown) hyl y4⟩
 clear hK K
 (try simp only [Act.put, zq1, zq2, zq3])
 refine tL 4 (some 57) ?_
 refine wpAnyH_done (by kernel_rfl) ?_ _
 clear hHeld
 go_upto_region 20 with fail
 refine code_gen (R := fun wb => Below w13.heap.size w13 wb) (by go_grown) ?_
 rintro w14 hq
 replace HX := hid (HX.out.below hq)
 replace HVW := hid (HVW.out.below (hq.mono hsS))
 replace HSS := hid (Nat.le_trans hsS hq.size)
 replace HMG := hid ((HMG.out.below hq).mono hq.size)
 replace HRM := hid (HRM.out.below hq)
 replace HO0 := hid (HO0.out.below hq)
 replace HO1 := hid (HO1.out.below hq)
 replace HOG := hid (HOG.out.below hq)
 replace y0 := keepc hq hyl y0
 replace y1 := keepc hq hyl y1
 replace y2 := keepc hq hyl y2
 replace y3 := keepc hq hyl y3
 replace y4 := keepc hq hyl y4
 replace hyl := Nat.lt_of_lt_of_le hyl hq.size
 replace hsS := HSS.out
 clear hq hb7 hb8 ht7 ht8 HMD
 clear x0 x1 x2 x3 x4 hlt hB HM HV0 HV1
 clear HMG
 obtain ⟨hlt, x0, x1, x2, x3, x4, hBx⟩ := HX.out
 have hB : W.heap.size ≤ w14.heap.size := hBx.size
 have HM := hid (HMA.out.below hBx)
 have HV0 := hid (HVA0.out.below hBx)
 have HV1 := hid (HVA1.out.below hBx)
 clear hBx
 go_wp2_with fail
 refine (c_toValueS (B := W.heap.size) w14 hB HV0.out kl0 KZ0.out).mono ?_
 rintro e w15 ⟨rfl, ⟨gs, hov⟩, -, hq⟩
 replace HX := hid (HX.out.below hq)
 replace HVW := hid (HVW.out.below (hq.mono hsS))
 replace HSS := hid (Nat.le_trans hsS hq.size)
 replace HRM := hid (HRM.out.below hq)
 replace HO0 := hid (HO0.out.below hq)
 replace HO1 := hid (HO1.out.below hq)
 replace HOG := hid (HOG.out.below hq)
 replace y0 := keepc hq hyl y0
 replace y1 := keepc hq hyl y1
 replace y2 := keepc hq hyl y2
 replace y3 := keepc hq hyl y3
 replace y4 := keepc hq hyl y4
 replace hyl := Nat.lt_of_lt_of_le hyl hq.size
 replace hsS := HSS.out
 clear x0 x1 x2 x3 x4 hlt hB HM HV0 HV1
 have HVL := hid (hov.vals (cap := z0.length) (Nat.le_refl _) (by unfold maxLen; omega))
 clear hq hov
 generalize w14.heap.size = gu at *
 obtain ⟨hlt, x0, x1, x2, x3, x4, hBx⟩ := HX.out
 have hB : W.heap.size ≤ w15.heap.size := hBx.size
 have HM := hid (HMA.out.below hBx)
 have HV0 := hid (HVA0.out.below hBx)
 have HV1 := hid (HVA1.out.below hBx)
 clear hBx
 go_wp2_with fail
 refine (c_eqValueS (B := w15.heap.size) w15 (Nat.le_refl _) (HO0.out.vals (cap := z0.length) (Nat.le_refl _) (by unfold maxLen; omega)) HVL.out).mono ?_
 rintro e w16 ⟨rfl, hq⟩
 replace HX := hid (HX.out.below hq)
 replace HVW := hid (HVW.out.below (hq.mono hsS))
 replace HSS := hid (Nat.le_trans hsS hq.size)
 replace HRM := hid (HRM.out.below hq)
 replace HO0 := hid (HO0.out.below hq)
 replace HO1 := hid (HO1.out.below hq)
 replace HOG := hid (HOG.out.below hq)
 replace y0 := keepc hq hyl y0
 replace y1 := keepc hq hyl y1
 replace y2 := keepc hq hyl y2
 replace y3 := keepc hq hyl y3
 replace y4 := keepc hq hyl y4
 replace hyl := Nat.lt_of_lt_of_le hyl hq.size
 replace hsS := HSS.out
 clear x0 x1 x2 x3 x4 hlt hB HM HV0 HV1
 clear hq HVL
 obtain ⟨hlt, x0, x1, x2, x3, x4, hBx⟩ := HX.out
 have hB : W.heap.size ≤ w16.heap.size := hBx.size
 have HM := hid (HMA.out.below hBx)
 have HV0 := hid (HVA0.out.below hBx)
 have HV1 := hid (HVA1.out.below hBx)
 clear hBx
 go_wp2_with fail
 refine (c_toValueS (B := W.heap.size) w16 hB HV1.out kl1 KZ1.out).mono ?_
 rintro e w17 ⟨rfl, ⟨gs, hov⟩, -, hq⟩
 replace HX := hid (HX.out.below hq)
 replace HVW := hid (HVW.out.below (hq.mono hsS))
 replace HSS := hid (Nat.le_trans hsS hq.size)
 replace HRM := hid (HRM.out.below hq)
 replace HO0 := hid (HO0.out.below hq)
 replace HO1 := hid (HO1.out.below hq)
 replace HOG := hid (HOG.out.below hq)
 replace y0 := keepc hq hyl y0
 replace y1 := keepc hq hyl y1
 replace y2 := keepc hq hyl y2
 replace y3 := keepc hq hyl y3
 replace y4 := keepc hq hyl y4
 replace hyl := Nat.lt_of_lt_of_le hyl hq.size
 replace hsS := HSS.out
 clear x0 x1 x2 x3 x4 hlt hB HM HV0 HV1
 have HVL := hid (hov.vals (cap := z1.length) (Nat.le_refl _) (by unfold maxLen; omega))
 clear hq hov
 generalize w16.heap.size = gu at *
 obtain ⟨hlt, x0, x1, x2, x3, x4, hBx⟩ := HX.out
 have hB : W.heap.size ≤ w17.heap.size := hBx.size
 have HM := hid (HMA.out.below hBx)
 have HV0 := hid (HVA0.out.below hBx)
 have HV1 := hid (HVA1.out.below hBx)
 clear hBx
 go_wp2_with fail
 refine (c_eqValueS (B := w17.heap.size) w17 (Nat.le_refl _) (HO1.out.vals (cap := z1.length) (Nat.le_refl _) (by unfold maxLen; omega)) HVL.out).mono ?_
 rintro e w18 ⟨rfl, hq⟩
 replace HX := hid (HX.out.below hq)
 replace HVW := hid (HVW.out.below (hq.mono hsS))
 replace HSS := hid (Nat.le_trans hsS hq.size)
 replace HRM := hid (HRM.out.below hq)
 replace HO0 := hid (HO0.out.below hq)
 replace HO1 := hid (HO1.out.below hq)
 replace HOG := hid (HOG.out.below hq)
 replace y0 := keepc hq hyl y0
 replace y1 := keepc hq hyl y1
 replace y2 := keepc hq hyl y2
 replace y3 := keepc hq hyl y3
 replace y4 := keepc hq hyl y4
 replace hyl := Nat.lt_of_lt_of_le hyl hq.size
 replace hsS := HSS.out
 clear x0 x1 x2 x3 x4 hlt hB HM HV0 HV1
 clear hq HVL
 have hgu := HGU.out
 have hgl := HGL.out
 have hna : ¬ (w7.heap.size ≤ w18.heap.size ∧ w18.heap.size < gx) := fun h => by have h1 := HO0.out.lt; omega
 obtain ⟨hlt, x0, x1, x2, x3, x4, hBx⟩ := HX.out
 have hB : W.heap.size ≤ w18.heap.size := hBx.size
 have HM := hid (HMA.out.below hBx)
 have HV0 := hid (HVA0.out.below hBx)
 have HV1 := hid (HVA1.out.below hBx)
 clear hBx
 go_wp2_with fail
 refine (c_markModelB (T := fun b => w7.heap.size ≤ b ∧ b < gx) ⟨hgl.1, hgu.1⟩ ⟨hgl.2.1, hgu.2.1⟩ ⟨hgl.2.2.1, hgu.2.2.1⟩ ⟨hgl.2.2.2.1, hgu.2.2.2.1⟩ ⟨hgl.2.2.2.2, hgu.2.2.2.2⟩ k0 k1 k2 k3 k4 w18 hna HRM.out).mono ?_
 rintro e w19 ⟨⟨q, rfl, hq0, hq1⟩, ht⟩
 have hbl : Below w7.heap.size w18 w19 := ht.belowAt (B := w7.heap.size) hsS (fun k hk => hk.1)
 replace HX := hid (HX.out.belowB hbl hWS)
 replace HVW := hid (HVW.out.below hbl)
 replace HO0 := hid (HO0.out.touch ht (Nat.le_refl _) (fun x hx e => by have h1 := e.2; omega))
 replace HO1 := hid (HO1.out.touch ht (Nat.le_refl _) (fun x hx e => by have h1 := e.2; omega))
 replace HOG := hid (HOG.out.touch ht (fun g h1 _ e => by have h2 := e.2; omega))
 replace HSS := hid (Nat.le_trans hsS ht.size)
 replace hsS := HSS.out
 clear x0 x1 x2 x3 x4 hlt hB HM HV0 HV1
 clear ht HRM hgu hgl hna y0 y1 y2 y3 y4 hyl
 clear hbl
 obtain ⟨hlt, x0, x1, x2, x3, x4, hBx⟩ := HX.out
 have hB : W.heap.size ≤ w19.heap.size := hBx.size
 have HM := hid (HMA.out.below hBx)
 have HV0 := hid (HVA0.out.below hBx)
 have HV1 := hid (HVA1.out.below hBx)
 clear hBx
 go_wp2_with fail
 refine (c_markValueC (T := fun b => gw0 < b ∧ b < gw1) HU0.out (fun h => by have := h.1; omega) q hq0 (by omega) kl0 KZ0.out w19 HO0.out).mono ?_
 rintro e w20 ⟨⟨q2, rfl, hq2, hq3⟩, ht⟩
 have hbl : Below w7.heap.size w19 w20 := ht.belowAt (B := w7.heap.size) hsS (fun k hk => by have h1 := hk.1; omega)
 replace HX := hid (HX.out.belowB hbl hWS)
 replace HVW := hid (HVW.out.below hbl)
 replace HO1 := hid (HO1.out.touch ht (Nat.le_refl _) (fun x hx e => by have h1 := e.2; omega))
 replace HOG := hid (HOG.out.touch ht (fun g h1 _ e => by have h2 := e.2; omega))
 replace HSS := hid (Nat.le_trans hsS ht.size)
 replace hsS := HSS.out
 clear x0 x1 x2 x3 x4 hlt hB HM HV0 HV1
 clear ht HO0 HU0
 clear hbl
 obtain ⟨hlt, x0, x1, x2, x3, x4, hBx⟩ := HX.out
 have hB : W.heap.size ≤ w20.heap.size := hBx.size
 have HM := hid (HMA.out.below hBx)
 have HV0 := hid (HVA0.out.below hBx)
 have HV1 := hid (HVA1.out.below hBx)
 clear hBx
 go_wp2_with fail
 refine (c_markValueC (T := fun b => gw1 < b ∧ b < w11.heap.size) HU1.out (fun h => by have := h.1; omega) q2 hq2 (by omega) kl1 KZ1.out w20 HO1.out).mono ?_
 rintro e w21 ⟨⟨q3, rfl, hq4, hq5⟩, ht⟩
 have hbl : Below w7.heap.size w20 w21 := ht.belowAt (B := w7.heap.size) hsS (fun k hk => by have h1 := hk.1; omega)
 replace HX := hid (HX.out.belowB hbl hWS)
 replace HVW := hid (HVW.out.below hbl)
 replace HOG := hid (HOG.out.touch ht (fun g h1 _ e => by have h2 := e.2; omega))
 replace HSS := hid (Nat.le_trans hsS ht.size)
 replace hsS := HSS.out
 clear x0 x1 x2 x3 x4 hlt hB HM HV0 HV1
 clear ht HO1 HU1
 clear hbl
 have hqn : ¬ q3 < 0 := by omega
 obtain ⟨hlt, x0, x1, x2, x3, x4, hBx⟩ := HX.out
 have hB : W.heap.size ≤ w21.heap.size := hBx.size
 have HM := hid (HMA.out.below hBx)
 have HV0 := hid (HVA0.out.below hBx)
 have HV1 := hid (HVA1.out.below hBx)
 clear hBx
 go_wp2_with fail
 refine (c_eqValueS (B := w21.heap.size) w21 (Nat.le_refl _) (by have := HOG.out.vals HXGL.out.symm; rw [HZG.out] at this; exact this) (HVW.out.mono hsS)).mono ?_
 rintro e w22 ⟨rfl, hq⟩
 replace HX := hid (HX.out.below hq)
 replace HVW := hid (HVW.out.below (hq.mono hsS))
 replace HSS := hid (Nat.le_trans hsS hq.size)
 replace HOG := hid (HOG.out.below hq)
 replace hsS := HSS.out
 clear x0 x1 x2 x3 x4 hlt hB HM HV0 HV1
 clear hq
 have HLN := hid (show ∀ p ∈ xg, p.2.length ≤ 4 from fun p hp => HSM.out.2 _ (by rw [← HZG.out]; exact List.mem_map_of_mem hp))
 have hof := offs_le xg HLN.out
 have hxl60 : xg.length ≤ 60 := by have := HXGL.out; omega
 obtain ⟨of, hofe⟩ : ∃ of, offs xg xg.length = of := ⟨_, rfl⟩
 have hof0 : 0 ≤ of := by rw [← hofe]; have := offs_mono xg (Nat.zero_le xg.length); simpa [offs] using this
 rw [hofe] at hof
 have HOF := hid hofe
 clear hofe
 obtain ⟨hlt, x0, x1, x2, x3, x4, hBx⟩ := HX.out
 have hB : W.heap.size ≤ w22.heap.size := hBx.size
 have HM := hid (HMA.out.below hBx)
 have HV0 := hid (HVA0.out.below hBx)
 have HV1 := hid (HVA1.out.below hBx)
 clear hBx
 go_wp2_with fail
 refine (c_markValueS (base := w11.heap.size) (xs := xg) 1 (by decide) HXGL.out.symm (by rw [HOF.out]; omega) (by omega) (fun p hp => by have := HLN.out p hp; omega) w22 HOG.out).mono ?_
 rintro e w23 ⟨rfl, ht, hhd⟩
 have hbl : Below w7.heap.size w22 w23 := ht.belowAt (B := w7.heap.size) hsS (fun k hk => by obtain ⟨p, hp, hk⟩ := hk; have := ((HOG.out.own p hp).1.lt k hk).1; omega)
 replace HX := hid (HX.out.belowB hbl hWS)
 replace HVW := hid (HVW.out.below hbl)
 replace HSS := hid (Nat.le_trans hsS ht.size)
 replace hsS := HSS.out
 clear x0 x1 x2 x3 x4 hlt hB HM HV0 HV1
 rw [HOF.out]
 have HHD := hid hhd
 clear ht hhd HOG
 clear hbl
 obtain ⟨hlt, x0, x1, x2, x3, x4, hBx⟩ := HX.out
 have hB : W.heap.size ≤ w23.heap.size := hBx.size
 have HM := hid (HMA.out.below hBx)
 have HV0 := hid (HVA0.out.below hBx)
 have HV1 := hid (HVA1.out.below hBx)
 clear hBx
 go_wp2_with fail
 refine (c_heldValueS (base := w11.heap.size) (xs := xg) 1 (by decide) HXGL.out.symm (by rw [HOF.out]; omega) (by omega) (fun p hp => by have := HLN.out p hp; omega) w23 HHD.out).mono ?_
 rintro e we ⟨rfl, hws⟩
 cases hws
 rw [HOF.out]
 clear x0 x1 x2 x3 x4 hlt hB HM HV0 HV1
 have hp1 : ¬ (1 + of) < 0 := by omega
 obtain ⟨hlt, x0, x1, x2, x3, x4, hBx⟩ := HX.out
 have hB : W.heap.size ≤ w23.heap.size := hBx.size
 have HM := hid (HMA.out.below hBx)
 have HV0 := hid (HVA0.out.below hBx)
 have HV1 := hid (HVA1.out.below hBx)
 clear hBx
 go_wp2_with fail
 refine (c_toModel (B := W.heap.size) (s0 := s0) (s1 := s1) (s2 := s2) (s3 := s3) (s4 := s4) w23 hB HM.out k0 k1 k2 k3 k4).mono ?_
 rintro e w24 ⟨b0, b1, b2, b3, b4, rfl, hma, hgl, hrm, hq⟩
 replace HX := hid (HX.out.below hq)
 replace HVW := hid (HVW.out.below (hq.mono hsS))
 replace HSS := hid (Nat.le_trans hsS hq.size)
 replace HHD := hid (HHD.out.below hq)
 replace hsS := HSS.out
 clear x0 x1 x2 x3 x4 hlt hB HM HV0 HV1
 have HMF := hid hma
 clear hq hma hgl hrm
 obtain ⟨hlt, x0, x1, x2, x3, x4, hBx⟩ := HX.out
 have hB : W.heap.size ≤ w24.heap.size := hBx.size
 have HM := hid (HMA.out.below hBx)
 have HV0 := hid (HVA0.out.below hBx)
 have HV1 := hid (HVA1.out.below hBx)
 clear hBx
 go_wp2_with fail
 refine (c_toValueS (B := W.heap.size) w24 hB HV0.out kl0 KZ0.out).mono ?_
 rintro e w25 ⟨rfl, ⟨gs, hov⟩, -, hq⟩
 replace HX := hid (HX.out.below hq)
 replace HVW := hid (HVW.out.below (hq.mono hsS))
 replace HSS := hid (Nat.le_trans hsS hq.size)
 replace HHD := hid (HHD.out.below hq)
 replace HMF := hid ((HMF.out.below hq).mono hq.size)
 replace hsS := HSS.out
 clear x0 x1 x2 x3 x4 hlt hB HM HV0 HV1
 have HVF0 := hid (hov.vals (cap := z0.length) (Nat.le_refl _) (by unfold maxLen; omega))
 clear hq hov
 generalize w24.heap.size = gf0 at *
 obtain ⟨hlt, x0, x1, x2, x3, x4, hBx⟩ := HX.out
 have hB : W.heap.size ≤ w25.heap.size := hBx.size
 have HM := hid (HMA.out.below hBx)
 have HV0 := hid (HVA0.out.below hBx)
 have HV1 := hid (HVA1.out.below hBx)
 clear hBx
 go_wp2_with fail
 refine (c_toValueS (B := W.heap.size) w25 hB HV1.out kl1 KZ1.out).mono ?_
 rintro e w26 ⟨rfl, ⟨gs, hov⟩, -, hq⟩
 replace HX := hid (HX.out.below hq)
 replace HVW := hid (HVW.out.below (hq.mono hsS))
 replace HSS := hid (Nat.le_trans hsS hq.size)
 replace HHD := hid (HHD.out.below hq)
 replace HMF := hid ((HMF.out.below hq).mono hq.size)
 replace HVF0 := hid ((HVF0.out.below hq).mono hq.size)
 replace hsS := HSS.out
 clear x0 x1 x2 x3 x4 hlt hB HM HV0 HV1
 have HVF1 := hid (hov.vals (cap := z1.length) (Nat.le_refl _) (by unfold maxLen; omega))
 clear hq hov
 generalize w25.heap.size = gf1 at *
 obtain ⟨hlt, x0, x1, x2, x3, x4, hBx⟩ := HX.out
 have hB : W.heap.size ≤ w26.heap.size := hBx.size
 have HM := hid (HMA.out.below hBx)
 have HV0 := hid (HVA0.out.below hBx)
 have HV1 := hid (HVA1.out.below hBx)
 clear hBx
 go_wp2_with fail
 refine (c_EvalAllI (B := w26.heap.size) w26 (Nat.le_refl _) HMF.out HVF0.out HVF1.out).mono ?_
 rintro e w27 ⟨vh, xh, rfl, hoh, hpj, hq⟩
 replace HX := hid (HX.out.below hq)
 replace HVW := hid (HVW.out.below (hq.mono hsS))
 replace HSS := hid (Nat.le_trans hsS hq.size)
 replace HHD := hid (HHD.out.below hq)
 replace HMF := hid ((HMF.out.below hq).mono hq.size)
 replace HVF0 := hid ((HVF0.out.below hq).mono hq.size)
 replace HVF1 := hid ((HVF1.out.below hq).mono hq.size)
 replace hsS := HSS.out
 clear x0 x1 x2 x3 x4 hlt hB HM HV0 HV1
 have hzh := AllIs.inj hpj HPI.out
 obtain ⟨ah, ch, rfl⟩ := hoh.len
 have hxhl : xh.length = zss.length := by rw [← hzh, List.length_map]
 have HVH := hid (show ValsAt w27.heap.size w27 ah zss.length ch zss from by have := hoh.vals rfl; rw [hzh, hxhl] at this; exact this)
 rw [hxhl]
 clear hq hoh hpj hzh hxhl HMF HVF0 HVF1
 obtain ⟨hlt, x0, x1, x2, x3, x4, hBx⟩ := HX.out
 have hB : W.heap.size ≤ w27.heap.size := hBx.size
 have HM := hid (HMA.out.below hBx)
 have HV0 := hid (HVA0.out.below hBx)
 have HV1 := hid (HVA1.out.below hBx)
 clear hBx
 go_wp2_with fail
 refine (c_eqValueS (B := w27.heap.size) w27 (Nat.le_refl _) HVH.out (HVW.out.mono hsS)).mono ?_
 rintro e w28 ⟨rfl, hq⟩
 replace HX := hid (HX.out.below hq)
 replace HVW := hid (HVW.out.below (hq.mono hsS))
 replace HSS := hid (Nat.le_trans hsS hq.size)
 replace HHD := hid (HHD.out.below hq)
 replace hsS := HSS.out
 clear x0 x1 x2 x3 x4 hlt hB HM HV0 HV1
 clear hq HVH
 obtain ⟨hlt, x0, x1, x2, x3, x4, hBx⟩ := HX.out
 have hB : W.heap.size ≤ w28.heap.size := hBx.size
 have HM := hid (HMA.out.below hBx)
 have HV0 := hid (HVA0.out.below hBx)
 have HV1 := hid (HVA1.out.below hBx)
 clear hBx
 go_wp2_with fail
 refine (c_heldValueS (base := w11.heap.size) (xs := xg) 1 (by decide) HXGL.out.symm (by rw [HOF.out]; omega) (by omega) (fun p hp => by have := HLN.out p hp; omega) w28 HHD.out).mono ?_
 rintro e we ⟨rfl, hws⟩
 cases hws
 rw [HOF.out]
 clear x0 x1 x2 x3 x4 hlt hB HM HV0 HV1
 go_wp2_with fail
 go_ret
 exact ⟨rfl, HX.out.2.2.2.2.2.2⟩
end Go.Proofs.YtlcgimadbpagfaaGreat
