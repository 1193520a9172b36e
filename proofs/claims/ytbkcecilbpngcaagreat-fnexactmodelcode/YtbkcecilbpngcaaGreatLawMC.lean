/-
  The laws of the code and of the bits of a model.
-/
import Derived.Test.YtbkcecilbpngcaaGreatRows
import Derived.Test.YtbkcecilbpngcaaGreatPaA
import Derived.Test.YtbkcecilbpngcaaGreatNodeM
import Derived.Test.YtbkcecilbpngcaaGreatNodeL
import Derived.Test.YtbkcecilbpngcaaGreatPaG
import Derived.Test.YtbkcecilbpngcaaGreatResP
import Derived.Test.YtbkcecilbpngcaaGreatModD
import Derived.Test.YtbkcecilbpngcaaGreatModA
import Derived.Test.YtbkcecilbpngcaaGreatModB
import Derived.Test.YtbkcecilbpngcaaGreatModC
import Derived.Test.YtbkcecilbpngcaaGreatModE
import Derived.Test.YtbkcecilbpngcaaGreatModF
import Derived.Test.YtbkcecilbpngcaaGreatModG
import Derived.Test.YtbkcecilbpngcaaGreatModH
import Derived.Test.YtbkcecilbpngcaaGreatModI
import Derived.Test.YtbkcecilbpngcaaGreatModJ
import Derived.Test.YtbkcecilbpngcaaGreatModK
import Derived.Test.YtbkcecilbpngcaaGreatPaF
import Derived.Test.YtbkcecilbpngcaaGreatModQ
import Derived.WalkKit
import Derived.ProofKit
import Derived.OpenShut
import Derived.WalkSpells
import Derived.WalkLawsBesides
import Derived.Outline
import Derived.BigQuiet
import Derived.Handy
import Derived.LoopTactic
import Derived.Deep.Light
import Derived.Deep.RegionWith
import Derived.Deep.RegionHeld3
import Derived.Deep.DeepCutAuto
import Derived.Lib.Hide
namespace Go.Proofs.YtbkcecilbpngcaaGreat
open Go.ChangeShapes Go.WideShapes Go.ChangeAt Go.RowKit
set_option linter.unusedVariables false
set_option maxRecDepth 100000


def BitsIs (M : MD) (a b : Int) : Prop := (CodeIs M 0 ∧ a = allBits 36 M.ns ∧ b = allBits 35 M.ns) ∨ (¬ CodeIs M 0 ∧ a = 0 ∧ b = 0)
theorem BitsIs.inj {M : MD} {a b c d : Int} (h : BitsIs M a b) (k : BitsIs M c d) : a = c ∧ b = d := by
  rcases h with ⟨h1, rfl, rfl⟩ | ⟨h1, rfl, rfl⟩ <;> rcases k with ⟨k1, rfl, rfl⟩ | ⟨k1, rfl, rfl⟩
  · exact ⟨rfl, rfl⟩
  · exact absurd h1 k1
  · exact absurd k1 h1
  · exact ⟨rfl, rfl⟩
theorem code0_len {M : MD} (h : CodeIs M 0) : M.ns.length ≤ 60 := by
  cases h
  rename_i h1 _ _ _ _ _
  exact Nat.le_of_not_lt (fun h => h1 (.inl h))

set_option maxHeartbeats 8000000 in
theorem w_FnExactModelCode {s0 s1 s2 s3 s4 : SL} {M : MD} (W : World) (h : ModelAt W.heap.size W s0 s1 s2 s3 s4 M) :
    Calls Tryz.prog 3 #[.agg (mcells s0 s1 s2 s3 s4).toArray] W fun e w' => e = .returned (.bool true) ∧ Below W.heap.size W w' := by
  have HMA := Go.Lib.hid h
  clear h
  simp only [mcells]
  go_enter Tryz.func3, Tryz.ntmps3
  go_upto_region 2 with fail
  refine code_gen (R := fun wb => Boxed s0 s1 s2 s3 s4 W wb) (Boxed.new _ _ _ _ _ _ _) ?_
  intro w0 hbox
  have HX0 := Go.Lib.hid hbox
  clear hbox
  obtain ⟨hlt, x0, x1, x2, x3, x4, hBx⟩ := HX0.out
  have hB0 : W.heap.size ≤ w0.heap.size := hBx.size
  have HM0 := Go.Lib.hid (HMA.out.below hBx)
  clear hBx
  go_wp2_with fail
  refine (c_szModel (B := W.heap.size) (s0 := s0) (s1 := s1) (s2 := s2) (s3 := s3) (s4 := s4) w0 hB0 HM0.out).mono ?_
  rintro e w1 ⟨r, rfl, hr, hq⟩
  have HX1 := Go.Lib.hid (HX0.out.below hq)
  clear hq x0 x1 x2 x3 x4 hlt HM0
  by_cases hn : r < 0
  · clear hr
    go_wp2_with fail
    go_ret
    exact ⟨rfl, HX1.out.2.2.2.2.2.2⟩
  obtain ⟨k0, k1, k2, k3, k4⟩ := hr (by omega)
  obtain ⟨hlt, x0, x1, x2, x3, x4, hBx⟩ := HX1.out
  have hB1 : W.heap.size ≤ w1.heap.size := hBx.size
  have HM1 := Go.Lib.hid (HMA.out.below hBx)
  clear hBx
  go_wp2_with fail
  refine (c_toModel (B := W.heap.size) (s0 := s0) (s1 := s1) (s2 := s2) (s3 := s3) (s4 := s4) w1 hB1 HM1.out k0 k1 k2 k3 k4).mono ?_
  rintro e w2 ⟨a0, a1, a2, a3, a4, rfl, hma, hgl, hrm, hq⟩
  have HMX := Go.Lib.hid hma
  have HX2 := Go.Lib.hid (HX1.out.below hq)
  clear hq x0 x1 x2 x3 x4 hlt HM1 hma hgl hrm
  obtain ⟨hlt, x0, x1, x2, x3, x4, hBx⟩ := HX2.out
  have hB2 : W.heap.size ≤ w2.heap.size := hBx.size
  have HM2 := Go.Lib.hid (HMA.out.below hBx)
  clear hBx
  go_wp2_with fail
  refine (c_ModelCodeS (B := w2.heap.size) w2 (Nat.le_refl _) HMX.out).mono ?_
  rintro e w3 ⟨c, rfl, hc, hq⟩
  have HC := Go.Lib.hid hc
  have HX3 := Go.Lib.hid (HX2.out.below hq)
  clear hq hc x0 x1 x2 x3 x4 hlt HM2 HMX
  obtain ⟨hlt, x0, x1, x2, x3, x4, hBx⟩ := HX3.out
  have hB3 : W.heap.size ≤ w3.heap.size := hBx.size
  have HM3 := Go.Lib.hid (HMA.out.below hBx)
  clear hBx
  go_wp2_with fail
  refine (c_toModel (B := W.heap.size) (s0 := s0) (s1 := s1) (s2 := s2) (s3 := s3) (s4 := s4) w3 hB3 HM3.out k0 k1 k2 k3 k4).mono ?_
  rintro e w4 ⟨g0, g1, g2, g3, g4, rfl, hma, hgl, hrm, hq⟩
  have HMG := Go.Lib.hid hma
  have HX4 := Go.Lib.hid (HX3.out.below hq)
  clear hq x0 x1 x2 x3 x4 hlt HM3 hma hgl hrm
  simp only [mcells, slOf]
  go_upto_region 7 with fail
  refine code_gen (R := fun wb => wb.cell? ⟨w4.heap.size, 0, none⟩ = some (.slice (some ⟨g0, 0, none⟩) s0.len s0.len) ∧ wb.cell? ⟨w4.heap.size, 1, none⟩ = some (.slice (some ⟨g1, 0, none⟩) s1.len s1.len) ∧ wb.cell? ⟨w4.heap.size, 2, none⟩ = some (.slice (some ⟨g2, 0, none⟩) s2.len s2.len) ∧ wb.cell? ⟨w4.heap.size, 3, none⟩ = some (.slice (some ⟨g3, 0, none⟩) s3.len s3.len) ∧ wb.cell? ⟨w4.heap.size, 4, none⟩ = some (.slice (some ⟨g4, 0, none⟩) s4.len s4.len) ∧ w4.heap.size < wb.heap.size ∧ Below w4.heap.size w4 wb) ⟨by simp, by simp, by simp, by simp, by simp, by simp, by go_grown⟩ ?_
  rintro w5 ⟨y0, y1, y2, y3, y4, hyl, hB5⟩
  have HX5 := Go.Lib.hid (HX4.out.below hB5)
  have HMH := Go.Lib.hid ((HMG.out.below hB5).mono hB5.size)
  generalize hgg : w4.heap.size = gx at *
  clear hB5 HMG hgg
  obtain ⟨hlt, x0, x1, x2, x3, x4, hBx⟩ := HX5.out
  have hB5 : W.heap.size ≤ w5.heap.size := hBx.size
  have HM5 := Go.Lib.hid (HMA.out.below hBx)
  clear hBx
  clear x0 x1 x2 x3 x4 hlt HM5
  go_wp2_with fail
  refine (c_ModelCodeI (B := w5.heap.size) w5 (Nat.le_refl _) HMH.out).mono ?_
  rintro e w6 ⟨c', rfl, hc, hq⟩
  obtain rfl := CodeIs.inj hc HC.out
  clear hc
  have z0 := keepc hq hyl y0
  have z1 := keepc hq hyl y1
  have z2 := keepc hq hyl y2
  have z3 := keepc hq hyl y3
  have z4 := keepc hq hyl y4
  have hyl6 := Nat.lt_of_lt_of_le hyl hq.size
  have HMJ := Go.Lib.hid ((HMH.out.below hq).mono hq.size)
  have HX6 := Go.Lib.hid (HX5.out.below hq)
  clear hq y0 y1 y2 y3 y4 HMH
  obtain ⟨hlt, x0, x1, x2, x3, x4, hBx⟩ := HX6.out
  have hB6 : W.heap.size ≤ w6.heap.size := hBx.size
  have HM6 := Go.Lib.hid (HMA.out.below hBx)
  clear hBx
  
  go_upto_region 10 with fail
  refine wp_region_held_drew (S := (fun w' => w'.cell? ⟨W.heap.size, 0, none⟩ = some (.slice s0.a s0.len s0.cap) ∧ w'.cell? ⟨W.heap.size, 1, none⟩ = some (.slice s1.a s1.len s1.cap) ∧ w'.cell? ⟨W.heap.size, 2, none⟩ = some (.slice s2.a s2.len s2.cap) ∧ w'.cell? ⟨W.heap.size, 3, none⟩ = some (.slice s3.a s3.len s3.cap) ∧ w'.cell? ⟨W.heap.size, 4, none⟩ = some (.slice s4.a s4.len s4.cap) ∧ w'.cell? ⟨gx, 0, none⟩ = some (.slice (some ⟨g0, 0, none⟩) s0.len s0.len) ∧ w'.cell? ⟨gx, 1, none⟩ = some (.slice (some ⟨g1, 0, none⟩) s1.len s1.len) ∧ w'.cell? ⟨gx, 2, none⟩ = some (.slice (some ⟨g2, 0, none⟩) s2.len s2.len) ∧ w'.cell? ⟨gx, 3, none⟩ = some (.slice (some ⟨g3, 0, none⟩) s3.len s3.len) ∧ w'.cell? ⟨gx, 4, none⟩ = some (.slice (some ⟨g4, 0, none⟩) s4.len s4.len))) (by kernel_rfl) ?_ (fun hHeld => ?_)
  · exact ⟨keepc (by go_grown) hlt x0, keepc (by go_grown) hlt x1, keepc (by go_grown) hlt x2, keepc (by go_grown) hlt x3, keepc (by go_grown) hlt x4, keepc (by go_grown) hyl6 z0, keepc (by go_grown) hyl6 z1, keepc (by go_grown) hyl6 z2, keepc (by go_grown) hyl6 z3, keepc (by go_grown) hyl6 z4⟩
  refine tL 0 (some 22) ?_
  refine tL 1 (some 23) ?_
  refine wpAnyH_ready (rs := [2]) (by kernel_rfl) (by simp) ?_
  refine AllReadyH.cons (o := _) rfl (fun K hK => ?_) AllReadyH.nil
  go_simp
  refine (c_toModel (B := W.heap.size) (s0 := s0) (s1 := s1) (s2 := s2) (s3 := s3) (s4 := s4) _ (Nat.le_trans hB6 (by go_size)) (HM6.out.below (Below.mono (show Below w6.heap.size w6 _ by go_grown) hB6)) k0 k1 k2 k3 k4).mono ?_; rintro e w7 ⟨d0, d1, d2, d3, d4, rfl, hmd, hgl, hrm, hq⟩; have HMD := Go.Lib.hid hmd; have hb7 : Below w6.heap.size w6 w7 := bstep (by go_grown) (Nat.le_refl _) hq; have ht7 := hb7.size; clear hq hmd hgl hrm
  (try go_wp2_with fail)
  (try clear hHeld)
  refine hK.out _ _ ?_ (fun hHeld => ?_)
  · exact ⟨keepc (by go_grown) hlt x0, keepc (by go_grown) hlt x1, keepc (by go_grown) hlt x2, keepc (by go_grown) hlt x3, keepc (by go_grown) hlt x4, keepc (by go_grown) hyl6 z0, keepc (by go_grown) hyl6 z1, keepc (by go_grown) hyl6 z2, keepc (by go_grown) hyl6 z3, keepc (by go_grown) hyl6 z4⟩
  clear hK K
  (try simp only [Act.put, List.setIfInBounds_toArray, List.set_cons_zero, List.set_cons_succ])
  refine wpAnyH_ready (rs := [3]) (by kernel_rfl) (by simp) ?_
  refine AllReadyH.cons (o := _) rfl (fun K hK => ?_) AllReadyH.nil
  go_simp
  refine (c_eqModel (B := w7.heap.size) w7 (Nat.le_refl _) ((HMJ.out.below hb7).mono ht7) HMD.out).mono ?_; rintro e w8 ⟨rfl, hq⟩; have hb8 : Below w6.heap.size w6 w8 := hb7.trans (hq.mono ht7); have ht8 := hb8.size; clear hq
  (try go_wp2_with fail)
  (try clear hHeld)
  refine hK.out _ _ ?_ (fun hHeld => ?_)
  · exact ⟨keepc (by go_grown) hlt x0, keepc (by go_grown) hlt x1, keepc (by go_grown) hlt x2, keepc (by go_grown) hlt x3, keepc (by go_grown) hlt x4, keepc (by go_grown) hyl6 z0, keepc (by go_grown) hyl6 z1, keepc (by go_grown) hyl6 z2, keepc (by go_grown) hyl6 z3, keepc (by go_grown) hyl6 z4⟩
  clear hK K
  (try simp only [Act.put, List.setIfInBounds_toArray, List.set_cons_zero, List.set_cons_succ])
  refine tL 4 (some 26) ?_
  refine wpAnyH_done (by kernel_rfl) ?_ _
  clear hHeld
  go_wp2_with fail
  go_ret
  exact ⟨rfl, HX6.out.2.2.2.2.2.2.trans (Below.mono (show Below w6.heap.size w6 _ by go_grown) HX6.out.2.2.2.2.2.2.size)⟩
end Go.Proofs.YtbkcecilbpngcaaGreat
