/-
  Parts: LawEI, shortened.
-/
import Derived.Test.YtlcgimadbpagfaaGreatZEvW
namespace Go.Proofs.YtlcgimadbpagfaaGreat
open Go.Lib
open Go.ChangeShapes Go.WideShapes Go.ChangeAt Go.RowKit Go.Maps
set_option linter.unusedVariables false
set_option maxRecDepth 100000
set_option maxHeartbeats 16000000 in
theorem w_FnExactInitFits {s0 s1 s2 s3 s4 : SL} {M : MD} {q0 : Option Addr} {l0 c0 : Nat} {z0 : List (List Int)} (W : World) (h : ModelAt W.heap.size W s0 s1 s2 s3 s4 M) (hv0 : ValsAt W.heap.size W q0 l0 c0 z0) :
  Calls Tryz.prog 4 #[.agg (mcells s0 s1 s2 s3 s4).toArray, .slice q0 l0 c0] W fun e w' => e = .returned (.bool true) ∧ Below W.heap.size W w' := by
 have HMA := hid h
 have HVA0 := hid hv0
 obtain rfl : z0.length = l0 := hv0.length
 clear h hv0
 simp only [mcells]
 go_enter Tryz.func4, Tryz.ntmps4
 go_upto_region 2 with fail
 refine code_gen (R := fun wb => Boxed s0 s1 s2 s3 s4 W wb) (Boxed.new _ _ _ _ _ _ _) ?_
 intro w0 hbox
 have HX := hid hbox
 clear hbox
 obtain ⟨hlt, x0, x1, x2, x3, x4, hBx⟩ := HX.out
 have hB : W.heap.size ≤ w0.heap.size := hBx.size
 have HM := hid (HMA.out.below hBx)
 have HV0 := hid (HVA0.out.below hBx)
 clear hBx
 go_wp2_with fail
 refine (c_szModelL (B := W.heap.size) (s0 := s0) (s1 := s1) (s2 := s2) (s3 := s3) (s4 := s4) w0 hB HM.out).mono ?_
 rintro e w1 ⟨r, rfl, hrl, hr, hq⟩
 replace HX := hid (HX.out.below hq)
 clear x0 x1 x2 x3 x4 hlt hB HM HV0
 clear hq
 by_cases hn : r < 0
 ·clear hr
  go_wp2_with fail
  go_ret
  exact ⟨rfl, HX.out.2.2.2.2.2.2⟩
 obtain ⟨k0, k1, k2, k3, k4⟩ := hr (by omega)
 clear hr
 obtain ⟨hlt, x0, x1, x2, x3, x4, hBx⟩ := HX.out
 have hB : W.heap.size ≤ w1.heap.size := hBx.size
 have HM := hid (HMA.out.below hBx)
 have HV0 := hid (HVA0.out.below hBx)
 clear hBx
 go_wp2_with fail
 refine (c_szValueS (B := W.heap.size) r (by omega) (by omega) w1 hB HV0.out).mono ?_
 rintro e w2 ⟨r2, rfl, hr20, hr21, hr, hq⟩
 replace HX := hid (HX.out.below hq)
 clear x0 x1 x2 x3 x4 hlt hB HM HV0
 clear hq
 by_cases hn0 : r2 < 0
 ·clear hr
  go_wp2_with fail
  go_ret
  exact ⟨rfl, HX.out.2.2.2.2.2.2⟩
 have kl0 : z0.length ≤ 1048576 := by have := (hr (by omega)).1; omega
 have KZ0 := hid (show ∀ k, k < z0.length → ((z0.getD k []).length : Int) ≤ 1048576 from fun k hk => by have := (hr (by omega)).2 k hk; omega)
 clear hr
 obtain ⟨hlt, x0, x1, x2, x3, x4, hBx⟩ := HX.out
 have hB : W.heap.size ≤ w2.heap.size := hBx.size
 have HM := hid (HMA.out.below hBx)
 have HV0 := hid (HVA0.out.below hBx)
 clear hBx
 go_wp2_with fail
 refine (c_toModel (B := W.heap.size) (s0 := s0) (s1 := s1) (s2 := s2) (s3 := s3) (s4 := s4) w2 hB HM.out k0 k1 k2 k3 k4).mono ?_
 rintro e w3 ⟨a0, a1, a2, a3, a4, rfl, hma, hgl, hrm, hq⟩
 replace HX := hid (HX.out.below hq)
 clear x0 x1 x2 x3 x4 hlt hB HM HV0
 have HMX := hid hma
 clear hq hma hgl hrm
 obtain ⟨hlt, x0, x1, x2, x3, x4, hBx⟩ := HX.out
 have hB : W.heap.size ≤ w3.heap.size := hBx.size
 have HM := hid (HMA.out.below hBx)
 have HV0 := hid (HVA0.out.below hBx)
 clear hBx
 go_wp2_with fail
 refine (c_toValueS (B := W.heap.size) w3 hB HV0.out kl0 KZ0.out).mono ?_
 rintro e w4 ⟨rfl, ⟨gs, hov⟩, -, hq⟩
 replace HX := hid (HX.out.below hq)
 replace HMX := hid ((HMX.out.below hq).mono hq.size)
 clear x0 x1 x2 x3 x4 hlt hB HM HV0
 have HVX0 := hid (hov.vals (cap := z0.length) (Nat.le_refl _) (by unfold maxLen; omega))
 clear hq hov
 generalize w3.heap.size = gv0 at *
 obtain ⟨hlt, x0, x1, x2, x3, x4, hBx⟩ := HX.out
 have hB : W.heap.size ≤ w4.heap.size := hBx.size
 have HM := hid (HMA.out.below hBx)
 have HV0 := hid (HVA0.out.below hBx)
 clear hBx
 go_wp2_with fail
 refine (c_InitFitsS (B := w4.heap.size) w4 (Nat.le_refl _) HMX.out HVX0.out).mono ?_
 rintro e w5 ⟨⟨q1, rfl, hq1⟩, hq⟩
 replace HX := hid (HX.out.below hq)
 clear x0 x1 x2 x3 x4 hlt hB HM HV0
 have HCR := hid hq1
 clear hq1
 clear hq HMX HVX0
 obtain ⟨hlt, x0, x1, x2, x3, x4, hBx⟩ := HX.out
 have hB : W.heap.size ≤ w5.heap.size := hBx.size
 have HM := hid (HMA.out.below hBx)
 have HV0 := hid (HVA0.out.below hBx)
 clear hBx
 go_wp2_with fail
 refine (c_toModel (B := W.heap.size) (s0 := s0) (s1 := s1) (s2 := s2) (s3 := s3) (s4 := s4) w5 hB HM.out k0 k1 k2 k3 k4).mono ?_
 rintro e w6 ⟨g0, g1, g2, g3, g4, rfl, hma, hgl, hrm, hq⟩
 replace HX := hid (HX.out.below hq)
 clear x0 x1 x2 x3 x4 hlt hB HM HV0
 have HMG := hid hma
 clear hq hma hgl hrm
 simp only [mcells, slOf]
 go_upto_region 10 with fail
 refine code_gen (R := fun wb => wb.cell? ⟨w6.heap.size, 0, none⟩ = some (.slice (some ⟨g0, 0, none⟩) s0.len s0.len) ∧ wb.cell? ⟨w6.heap.size, 1, none⟩ = some (.slice (some ⟨g1, 0, none⟩) s1.len s1.len) ∧ wb.cell? ⟨w6.heap.size, 2, none⟩ = some (.slice (some ⟨g2, 0, none⟩) s2.len s2.len) ∧ wb.cell? ⟨w6.heap.size, 3, none⟩ = some (.slice (some ⟨g3, 0, none⟩) s3.len s3.len) ∧ wb.cell? ⟨w6.heap.size, 4, none⟩ = some (.slice (some ⟨g4, 0, none⟩) s4.len s4.len) ∧ w6.heap.size < wb.heap.size ∧ Below w6.heap.size w6 wb) ⟨by simp, by simp, by simp, by simp, by simp, by simp, by go_grown⟩ ?_
 rintro w7 ⟨y0, y1, y2, y3, y4, hyl, hq⟩
 replace HX := hid (HX.out.below hq)
 replace HMG := hid ((HMG.out.below hq).mono hq.size)
 clear hq
 generalize hgg : w6.heap.size = gx at *
 clear hgg
 obtain ⟨hlt, x0, x1, x2, x3, x4, hBx⟩ := HX.out
 have hB : W.heap.size ≤ w7.heap.size := hBx.size
 have HM := hid (HMA.out.below hBx)
 have HV0 := hid (HVA0.out.below hBx)
 clear hBx
 go_wp2_with fail
 refine (c_toValueS (B := W.heap.size) w7 hB HV0.out kl0 KZ0.out).mono ?_
 rintro e w8 ⟨rfl, ⟨gs, hov⟩, -, hq⟩
 replace HX := hid (HX.out.below hq)
 replace HMG := hid ((HMG.out.below hq).mono hq.size)
 replace y0 := keepc hq hyl y0
 replace y1 := keepc hq hyl y1
 replace y2 := keepc hq hyl y2
 replace y3 := keepc hq hyl y3
 replace y4 := keepc hq hyl y4
 replace hyl := Nat.lt_of_lt_of_le hyl hq.size
 clear x0 x1 x2 x3 x4 hlt hB HM HV0
 have HVH0 := hid (hov.vals (cap := z0.length) (Nat.le_refl _) (by unfold maxLen; omega))
 clear hq hov
 generalize w7.heap.size = gw0 at *
 obtain ⟨hlt, x0, x1, x2, x3, x4, hBx⟩ := HX.out
 have hB : W.heap.size ≤ w8.heap.size := hBx.size
 have HM := hid (HMA.out.below hBx)
 have HV0 := hid (HVA0.out.below hBx)
 clear hBx
 go_wp2_with fail
 refine (c_InitFitsI (B := w8.heap.size) w8 (Nat.le_refl _) HMG.out HVH0.out).mono ?_
 rintro e w9 ⟨⟨q2, rfl, hq2⟩, hq⟩
 replace HX := hid (HX.out.below hq)
 replace HMG := hid ((HMG.out.below hq).mono hq.size)
 replace HVH0 := hid ((HVH0.out.below hq).mono hq.size)
 replace y0 := keepc hq hyl y0
 replace y1 := keepc hq hyl y1
 replace y2 := keepc hq hyl y2
 replace y3 := keepc hq hyl y3
 replace y4 := keepc hq hyl y4
 replace hyl := Nat.lt_of_lt_of_le hyl hq.size
 clear x0 x1 x2 x3 x4 hlt hB HM HV0
 obtain rfl : q2 = q1 := by rw [Bool.eq_iff_iff]; exact hq2.trans HCR.out.symm
 clear hq2 HCR
 clear hq
 obtain ⟨hlt, x0, x1, x2, x3, x4, hBx⟩ := HX.out
 have hB : W.heap.size ≤ w9.heap.size := hBx.size
 have HM := hid (HMA.out.below hBx)
 have HV0 := hid (HVA0.out.below hBx)
 clear hBx
 go_upto_region 14 with fail
 refine wp_region_held_drew (S := (fun w' => w'.cell? ⟨W.heap.size, 0, none⟩ = some (.slice s0.a s0.len s0.cap) ∧ w'.cell? ⟨W.heap.size, 1, none⟩ = some (.slice s1.a s1.len s1.cap) ∧ w'.cell? ⟨W.heap.size, 2, none⟩ = some (.slice s2.a s2.len s2.cap) ∧ w'.cell? ⟨W.heap.size, 3, none⟩ = some (.slice s3.a s3.len s3.cap) ∧ w'.cell? ⟨W.heap.size, 4, none⟩ = some (.slice s4.a s4.len s4.cap) ∧ w'.cell? ⟨gx, 0, none⟩ = some (.slice (some ⟨g0, 0, none⟩) s0.len s0.len) ∧ w'.cell? ⟨gx, 1, none⟩ = some (.slice (some ⟨g1, 0, none⟩) s1.len s1.len) ∧ w'.cell? ⟨gx, 2, none⟩ = some (.slice (some ⟨g2, 0, none⟩) s2.len s2.len) ∧ w'.cell? ⟨gx, 3, none⟩ = some (.slice (some ⟨g3, 0, none⟩) s3.len s3.len) ∧ w'.cell? ⟨gx, 4, none⟩ = some (.slice (some ⟨g4, 0, none⟩) s4.len s4.len))) (by kernel_rfl) ?_ (fun hHeld => ?_)
 ·exact ⟨keepc (by go_grown) hlt x0, keepc (by go_grown) hlt x1, keepc (by go_grown) hlt x2, keepc (by go_grown) hlt x3, keepc (by go_grown) hlt x4, keepc (by go_grown) hyl y0, keepc (by go_grown) hyl y1, keepc (by go_grown) hyl y2, keepc (by go_grown) hyl y3, keepc (by go_grown) hyl y4⟩
 refine tL 0 (some 35) ?_
 refine tL 1 (some 36) ?_
 refine wpAnyH_ready (rs := [2]) (by kernel_rfl) (by simp) ?_
 refine .cons (o := _) rfl (fun K hK => ?_) .nil
 go_simp
 refine (c_toModel (B := W.heap.size) (s0 := s0) (s1 := s1) (s2 := s2) (s3 := s3) (s4 := s4) _ (Nat.le_trans hB (by go_size)) (HM.out.below (Below.mono (show Below w9.heap.size w9 _ by go_grown) hB)) k0 k1 k2 k3 k4).mono ?_; rintro e wt ⟨d0, d1, d2, d3, d4, rfl, hmd, hgl, hrm, hq⟩; have HMD := hid hmd; have hb7 : Below w9.heap.size w9 wt := bstep (by go_grown) (Nat.le_refl _) hq; have ht7 := hb7.size; clear hq hmd hgl hrm
 (try go_wp2_with fail)
 (try clear hHeld)
 refine hK.out _ _ ?_ (fun hHeld => ?_)
 ·exact ⟨keepc (by go_grown) hlt x0, keepc (by go_grown) hlt x1, keepc (by go_grown) hlt x2, keepc (by go_grown) hlt x3, keepc (by go_grown) hlt x4, keepc (by go_grown) hyl y0, keepc (by go_grown) hyl y1, keepc (by go_grown) hyl y2, keepc (by go_grown) hyl y3, keepc (by go_grown) hyl y4⟩
 clear hK K
 (try simp only [Act.put, zq1, zq2, zq3])
 refine wpAnyH_ready (rs := [3]) (by kernel_rfl) (by simp) ?_
 refine .cons (o := _) rfl (fun K hK => ?_) .nil
 go_simp
 refine (c_eqModel (B := wt.heap.size) wt (Nat.le_refl _) ((HMG.out.below hb7).mono ht7) HMD.out).mono ?_; rintro e we ⟨rfl, hq⟩; have hb8 : Below w9.heap.size w9 we := hb7.trans (hq.mono ht7); have ht8 := hb8.size; clear hq
 (try go_wp2_with fail)
 (try clear hHeld)
 refine hK.out _ _ ?_ (fun hHeld => ?_)
 ·exact ⟨keepc (by go_grown) hlt x0, keepc (by go_grown) hlt x1, keepc (by go_grown) hlt x2, keepc (by go_grown) hlt x3, keepc (by go_grown) hlt x4, keepc (by go_grown) hyl y0, keepc (by go_grown) hyl y1, keepc (by go_grown) hyl y2, keepc (by go_grown) hyl y3, keepc (by go_grown) hyl y4⟩
 clear hK K
 (try simp only [Act.put, zq1, zq2, zq3])
 refine tL 4 (some 39) ?_
 refine wpAnyH_done (by kernel_rfl) ?_ _
 clear hHeld
 go_upto_region 16 with fail
 refine code_gen (R := fun wb => Below w9.heap.size w9 wb) (by go_grown) ?_
 rintro w10 hq
 replace HX := hid (HX.out.below hq)
 replace HMG := hid ((HMG.out.below hq).mono hq.size)
 replace HVH0 := hid ((HVH0.out.below hq).mono hq.size)
 replace y0 := keepc hq hyl y0
 replace y1 := keepc hq hyl y1
 replace y2 := keepc hq hyl y2
 replace y3 := keepc hq hyl y3
 replace y4 := keepc hq hyl y4
 replace hyl := Nat.lt_of_lt_of_le hyl hq.size
 clear hq hb7 hb8 ht7 ht8 HMD
 clear x0 x1 x2 x3 x4 hlt hB HM HV0
 clear HMG
 clear y0 y1 y2 y3 y4 hyl
 obtain ⟨hlt, x0, x1, x2, x3, x4, hBx⟩ := HX.out
 have hB : W.heap.size ≤ w10.heap.size := hBx.size
 have HM := hid (HMA.out.below hBx)
 have HV0 := hid (HVA0.out.below hBx)
 clear hBx
 go_wp2_with fail
 refine (c_toValueS (B := W.heap.size) w10 hB HV0.out kl0 KZ0.out).mono ?_
 rintro e w11 ⟨rfl, ⟨gs, hov⟩, -, hq⟩
 replace HX := hid (HX.out.below hq)
 replace HVH0 := hid ((HVH0.out.below hq).mono hq.size)
 clear x0 x1 x2 x3 x4 hlt hB HM HV0
 have HVL := hid (hov.vals (cap := z0.length) (Nat.le_refl _) (by unfold maxLen; omega))
 clear hq hov
 generalize w10.heap.size = gu at *
 obtain ⟨hlt, x0, x1, x2, x3, x4, hBx⟩ := HX.out
 have hB : W.heap.size ≤ w11.heap.size := hBx.size
 have HM := hid (HMA.out.below hBx)
 have HV0 := hid (HVA0.out.below hBx)
 clear hBx
 go_wp2_with fail
 refine (c_eqValueS (B := w11.heap.size) w11 (Nat.le_refl _) HVH0.out HVL.out).mono ?_
 rintro e w12 ⟨rfl, hq⟩
 replace HX := hid (HX.out.below hq)
 replace HVH0 := hid ((HVH0.out.below hq).mono hq.size)
 clear x0 x1 x2 x3 x4 hlt hB HM HV0
 clear hq HVL
 clear HVH0
 go_wp2_with fail
 go_ret
 exact ⟨rfl, HX.out.2.2.2.2.2.2⟩
end Go.Proofs.YtlcgimadbpagfaaGreat
