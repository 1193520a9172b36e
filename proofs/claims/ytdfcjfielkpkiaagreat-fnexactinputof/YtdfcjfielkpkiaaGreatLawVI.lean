/-
  The law of the input of a number.
-/
import Derived.Test.YtdfcjfielkpkiaaGreatRows
import Derived.Test.YtdfcjfielkpkiaaGreatPaA
import Derived.Test.YtdfcjfielkpkiaaGreatNodeM
import Derived.Test.YtdfcjfielkpkiaaGreatNames
import Derived.Test.YtdfcjfielkpkiaaGreatNodeL
import Derived.Test.YtdfcjfielkpkiaaGreatPaG
import Derived.Test.YtdfcjfielkpkiaaGreatResP
import Derived.Test.YtdfcjfielkpkiaaGreatNSortI
import Derived.Test.YtdfcjfielkpkiaaGreatModD
import Derived.Test.YtdfcjfielkpkiaaGreatModA
import Derived.Test.YtdfcjfielkpkiaaGreatModB
import Derived.Test.YtdfcjfielkpkiaaGreatModE
import Derived.Test.YtdfcjfielkpkiaaGreatModF
import Derived.Test.YtdfcjfielkpkiaaGreatPaF
import Derived.Test.YtdfcjfielkpkiaaGreatModQ
import Derived.Test.YtdfcjfielkpkiaaGreatModU
import Derived.Test.YtdfcjfielkpkiaaGreatModV
import Derived.Test.YtdfcjfielkpkiaaGreatModW
import Derived.Test.YtdfcjfielkpkiaaGreatLawMC
import Derived.Test.YtdfcjfielkpkiaaGreatPaH
import Derived.Test.YtdfcjfielkpkiaaGreatPaK
import Derived.Test.YtdfcjfielkpkiaaGreatModC
import Derived.Test.YtdfcjfielkpkiaaGreatModG
import Derived.Test.YtdfcjfielkpkiaaGreatModH
import Derived.Test.YtdfcjfielkpkiaaGreatModI
import Derived.Test.YtdfcjfielkpkiaaGreatModJ
import Derived.Test.YtdfcjfielkpkiaaGreatModK
import Derived.WalkKit
import Derived.ProofKit
import Derived.OpenShut
import Derived.WalkSpells
import Derived.WalkLawsBesides
import Derived.Outline
import Derived.BigQuiet
import Derived.Handy
import Derived.LoopTactic
import Derived.Deep.Light
import Derived.Deep.RegionWith
import Derived.Deep.RegionHeld3
import Derived.Deep.DeepCutAuto
import Derived.Lib.Hide
import Derived.Maps.OwnRows
import Derived.Deep.Onto
import Derived.OneCell
import Derived.StillTailTactics
import Derived.Deep.AppendLies
import Derived.Deep.RegionLaw
namespace Go.Proofs.YtdfcjfielkpkiaaGreat
open Go.ChangeShapes Go.WideShapes Go.ChangeAt Go.RowKit Go.Maps
set_option linter.unusedVariables false
set_option maxRecDepth 100000


set_option maxHeartbeats 16000000 in
theorem w_FnExactInputOf {s0 s1 s2 s3 s4 : SL} {M : MD} (cd : Int) (W : World) (h : ModelAt W.heap.size W s0 s1 s2 s3 s4 M) :
    Calls Tryz.prog 9 #[.agg (mcells s0 s1 s2 s3 s4).toArray, .int .i64 cd] W fun e w' => e = .returned (.bool true) ∧ Below W.heap.size W w' := by
  have HMA := Go.Lib.hid h
  clear h
  simp only [mcells]
  go_enter Tryz.func9, Tryz.ntmps9
  go_upto_region 2 with fail
  refine code_gen (R := fun wb => Boxed s0 s1 s2 s3 s4 W wb) (Boxed.new _ _ _ _ _ _ _) ?_
  intro w0 hbox
  have HX0 := Go.Lib.hid hbox
  clear hbox
  obtain ⟨hlt, x0, x1, x2, x3, x4, hBx⟩ := HX0.out
  have hB0 : W.heap.size ≤ w0.heap.size := hBx.size
  have HM0 := Go.Lib.hid (HMA.out.below hBx)
  clear hBx
  go_wp2_with fail
  refine (c_szModel (B := W.heap.size) (s0 := s0) (s1 := s1) (s2 := s2) (s3 := s3) (s4 := s4) w0 hB0 HM0.out).mono ?_
  rintro e w1 ⟨r, rfl, hr, hq⟩
  have HX1 := Go.Lib.hid (HX0.out.below hq)
  clear hq x0 x1 x2 x3 x4 hlt HM0
  by_cases hn : r < 0
  · clear hr
    go_wp2_with fail
    go_ret
    exact ⟨rfl, HX1.out.2.2.2.2.2.2⟩
  obtain ⟨k0, k1, k2, k3, k4⟩ := hr (by omega)
  obtain ⟨hlt, x0, x1, x2, x3, x4, hBx⟩ := HX1.out
  have hB1 : W.heap.size ≤ w1.heap.size := hBx.size
  have HM1 := Go.Lib.hid (HMA.out.below hBx)
  clear hBx
  go_wp2_with fail
  refine (c_toModel (B := W.heap.size) (s0 := s0) (s1 := s1) (s2 := s2) (s3 := s3) (s4 := s4) w1 hB1 HM1.out k0 k1 k2 k3 k4).mono ?_
  rintro e w2 ⟨a0, a1, a2, a3, a4, rfl, hma, hgl, hrm, hq⟩
  have HMX := Go.Lib.hid hma
  have HX2 := Go.Lib.hid (HX1.out.below hq)
  clear hq x0 x1 x2 x3 x4 hlt HM1 hma hgl hrm
  obtain ⟨hlt, x0, x1, x2, x3, x4, hBx⟩ := HX2.out
  have hB2 : W.heap.size ≤ w2.heap.size := hBx.size
  have HM2 := Go.Lib.hid (HMA.out.below hBx)
  clear hBx
  go_wp2_with fail
  refine (c_InputOfS (B := w2.heap.size) cd w2 (Nat.le_refl _) HMX.out).mono ?_
  rintro e w3 ⟨vw, xw, bw, rfl, how, hpi, hq⟩
  have HPI := Go.Lib.hid hpi
  obtain ⟨aw, cw, rfl⟩ := how.len
  obtain ⟨zss, hzw⟩ : ∃ zss, xw.map Prod.snd = zss := ⟨_, rfl⟩
  rw [hzw] at HPI
  have HSM := Go.Lib.hid HPI.out.small
  have hz60 : zss.length ≤ 60 := HPI.out.small.1
  have hxwl : xw.length = zss.length := by rw [← hzw, List.length_map]
  have HVW := Go.Lib.hid (show ValsAt w3.heap.size w3 aw zss.length cw zss from by have := how.vals rfl; rw [hzw, hxwl] at this; exact this)
  rw [hxwl]
  have HX3 := Go.Lib.hid (HX2.out.below hq)
  clear hq how hpi x0 x1 x2 x3 x4 hlt HM2 HMX hzw hxwl
  obtain ⟨hlt, x0, x1, x2, x3, x4, hBx⟩ := HX3.out
  have hB3 : W.heap.size ≤ w3.heap.size := hBx.size
  have HM3 := Go.Lib.hid (HMA.out.below hBx)
  clear hBx
  go_wp2_with fail
  refine (c_toModel (B := W.heap.size) (s0 := s0) (s1 := s1) (s2 := s2) (s3 := s3) (s4 := s4) w3 hB3 HM3.out k0 k1 k2 k3 k4).mono ?_
  rintro e w4 ⟨g0, g1, g2, g3, g4, rfl, hma, hgl, hrm, hq⟩
  have HMG := Go.Lib.hid hma
  have HGL := Go.Lib.hid hgl
  have HGU := Go.Lib.hid (show g0 < w4.heap.size ∧ g1 < w4.heap.size ∧ g2 < w4.heap.size ∧ g3 < w4.heap.size ∧ g4 < w4.heap.size from ⟨hrm.1.1, hrm.2.1.1, hrm.2.2.1.1, hrm.2.2.2.1.1, hrm.2.2.2.2.1⟩)
  have HRM4 := Go.Lib.hid (show ModelRoom w4 g0 g1 g2 g3 g4 s0.len s1.len s2.len s3.len s4.len from hrm)
  have HX4 := Go.Lib.hid (HX3.out.below hq)
  have HVW4 := Go.Lib.hid (HVW.out.below hq)
  have hs34 := hq.size
  have hW3 : W.heap.size < w3.heap.size := hlt
  clear hq x0 x1 x2 x3 x4 hlt HM3 hma hgl hrm HVW
  simp only [mcells, slOf]
  go_upto_region 7 with fail
  refine code_gen (R := fun wb => wb.cell? ⟨w4.heap.size, 0, none⟩ = some (.slice (some ⟨g0, 0, none⟩) s0.len s0.len) ∧ wb.cell? ⟨w4.heap.size, 1, none⟩ = some (.slice (some ⟨g1, 0, none⟩) s1.len s1.len) ∧ wb.cell? ⟨w4.heap.size, 2, none⟩ = some (.slice (some ⟨g2, 0, none⟩) s2.len s2.len) ∧ wb.cell? ⟨w4.heap.size, 3, none⟩ = some (.slice (some ⟨g3, 0, none⟩) s3.len s3.len) ∧ wb.cell? ⟨w4.heap.size, 4, none⟩ = some (.slice (some ⟨g4, 0, none⟩) s4.len s4.len) ∧ w4.heap.size < wb.heap.size ∧ Below w4.heap.size w4 wb) ⟨by simp, by simp, by simp, by simp, by simp, by simp, by go_grown⟩ ?_
  rintro w5 ⟨y0, y1, y2, y3, y4, hyl, hB5⟩
  have HX5 := Go.Lib.hid (HX4.out.below hB5)
  have HMH := Go.Lib.hid ((HMG.out.below hB5).mono hB5.size)
  have HVW5 := Go.Lib.hid (HVW4.out.below (hB5.mono hs34))
  have HRM5 := Go.Lib.hid (HRM4.out.below hB5)
  generalize hgg : w4.heap.size = gx at *
  clear hB5 HMG hgg HVW4 HRM4 HX4
  go_wp2_with fail
  refine (c_InputOfI (B := w5.heap.size) cd w5 (Nat.le_refl _) HMH.out).mono ?_
  rintro e w6 ⟨vg, xg, bg, rfl, hog, hpj, hq⟩
  obtain ⟨hzg, rfl⟩ := OfIs.inj hpj HPI.out
  have HOG6 := Go.Lib.hid hog
  have HZG := Go.Lib.hid hzg
  obtain ⟨ag, cg, rfl⟩ := hog.len
  have hxgl : xg.length = zss.length := by rw [← hzg, List.length_map]
  have HXGL := Go.Lib.hid hxgl
  rw [hxgl] at HOG6 ⊢
  have HVW6 := Go.Lib.hid (HVW5.out.below (hq.mono (by omega)))
  have HRM6 := Go.Lib.hid (HRM5.out.below hq)
  have z0 := keepc hq hyl y0
  have z1 := keepc hq hyl y1
  have z2 := keepc hq hyl y2
  have z3 := keepc hq hyl y3
  have z4 := keepc hq hyl y4
  have hyl6 := Nat.lt_of_lt_of_le hyl hq.size
  have HMJ := Go.Lib.hid ((HMH.out.below hq).mono hq.size)
  have HX6 := Go.Lib.hid (HX5.out.below hq)
  have hs56 := hq.size
  clear hq y0 y1 y2 y3 y4 HMH hog hpj hzg hxgl HVW5 HRM5 HX5
  have hbb : (bg != bg) = false := by cases bg <;> rfl
  go_wp2_with fail
  refine (c_eqValueS (B := w6.heap.size) w6 (Nat.le_refl _) (by have := HOG6.out.vals HXGL.out.symm; rw [HZG.out] at this; exact this) (HVW6.out.mono (by omega))).mono ?_
  rintro e w7 ⟨rfl, hq⟩
  have HOG7 := Go.Lib.hid (HOG6.out.below hq)
  have HVW7 := Go.Lib.hid (HVW6.out.below (hq.mono (by omega)))
  have HRM7 := Go.Lib.hid (HRM6.out.below hq)
  have y0 := keepc hq hyl6 z0
  have y1 := keepc hq hyl6 z1
  have y2 := keepc hq hyl6 z2
  have y3 := keepc hq hyl6 z3
  have y4 := keepc hq hyl6 z4
  have hyl7 := Nat.lt_of_lt_of_le hyl6 hq.size
  have HMK := Go.Lib.hid ((HMJ.out.below hq).mono hq.size)
  have HX7 := Go.Lib.hid (HX6.out.below hq)
  have hs67 := hq.size
  clear hq z0 z1 z2 z3 z4 HMJ HOG6 HVW6 HRM6 HX6
  obtain ⟨hlt, x0, x1, x2, x3, x4, hBx⟩ := HX7.out
  have hB7 : W.heap.size ≤ w7.heap.size := hBx.size
  have HM7 := Go.Lib.hid (HMA.out.below hBx)
  clear hBx
  go_upto_region 10 with fail
  refine wp_region_held_drew (S := (fun w' => w'.cell? ⟨W.heap.size, 0, none⟩ = some (.slice s0.a s0.len s0.cap) ∧ w'.cell? ⟨W.heap.size, 1, none⟩ = some (.slice s1.a s1.len s1.cap) ∧ w'.cell? ⟨W.heap.size, 2, none⟩ = some (.slice s2.a s2.len s2.cap) ∧ w'.cell? ⟨W.heap.size, 3, none⟩ = some (.slice s3.a s3.len s3.cap) ∧ w'.cell? ⟨W.heap.size, 4, none⟩ = some (.slice s4.a s4.len s4.cap) ∧ w'.cell? ⟨gx, 0, none⟩ = some (.slice (some ⟨g0, 0, none⟩) s0.len s0.len) ∧ w'.cell? ⟨gx, 1, none⟩ = some (.slice (some ⟨g1, 0, none⟩) s1.len s1.len) ∧ w'.cell? ⟨gx, 2, none⟩ = some (.slice (some ⟨g2, 0, none⟩) s2.len s2.len) ∧ w'.cell? ⟨gx, 3, none⟩ = some (.slice (some ⟨g3, 0, none⟩) s3.len s3.len) ∧ w'.cell? ⟨gx, 4, none⟩ = some (.slice (some ⟨g4, 0, none⟩) s4.len s4.len))) (by kernel_rfl) ?_ (fun hHeld => ?_)
  · exact ⟨keepc (by go_grown) hlt x0, keepc (by go_grown) hlt x1, keepc (by go_grown) hlt x2, keepc (by go_grown) hlt x3, keepc (by go_grown) hlt x4, keepc (by go_grown) hyl7 y0, keepc (by go_grown) hyl7 y1, keepc (by go_grown) hyl7 y2, keepc (by go_grown) hyl7 y3, keepc (by go_grown) hyl7 y4⟩
  refine tL 0 (some 45) ?_
  refine tL 1 (some 46) ?_
  refine wpAnyH_ready (rs := [2]) (by kernel_rfl) (by simp) ?_
  refine AllReadyH.cons (o := _) rfl (fun K hK => ?_) AllReadyH.nil
  go_simp
  refine (c_toModel (B := W.heap.size) (s0 := s0) (s1 := s1) (s2 := s2) (s3 := s3) (s4 := s4) _ (Nat.le_trans hB7 (by go_size)) (HM7.out.below (Below.mono (show Below w7.heap.size w7 _ by go_grown) hB7)) k0 k1 k2 k3 k4).mono ?_; rintro e w8 ⟨d0, d1, d2, d3, d4, rfl, hmd, hgl, hrm, hq⟩; have HMD := Go.Lib.hid hmd; have hb8 : Below w7.heap.size w7 w8 := bstep (by go_grown) (Nat.le_refl _) hq; have ht8 := hb8.size; clear hq hmd hgl hrm
  (try go_wp2_with fail)
  (try clear hHeld)
  refine hK.out _ _ ?_ (fun hHeld => ?_)
  · exact ⟨keepc (by go_grown) hlt x0, keepc (by go_grown) hlt x1, keepc (by go_grown) hlt x2, keepc (by go_grown) hlt x3, keepc (by go_grown) hlt x4, keepc (by go_grown) hyl7 y0, keepc (by go_grown) hyl7 y1, keepc (by go_grown) hyl7 y2, keepc (by go_grown) hyl7 y3, keepc (by go_grown) hyl7 y4⟩
  clear hK K
  (try simp only [Act.put, List.setIfInBounds_toArray, List.set_cons_zero, List.set_cons_succ])
  refine wpAnyH_ready (rs := [3]) (by kernel_rfl) (by simp) ?_
  refine AllReadyH.cons (o := _) rfl (fun K hK => ?_) AllReadyH.nil
  go_simp
  refine (c_eqModel (B := w8.heap.size) w8 (Nat.le_refl _) ((HMK.out.below hb8).mono ht8) HMD.out).mono ?_; rintro e w9 ⟨rfl, hq⟩; have hb9 : Below w7.heap.size w7 w9 := hb8.trans (hq.mono ht8); have ht9 := hb9.size; clear hq
  (try go_wp2_with fail)
  (try clear hHeld)
  refine hK.out _ _ ?_ (fun hHeld => ?_)
  · exact ⟨keepc (by go_grown) hlt x0, keepc (by go_grown) hlt x1, keepc (by go_grown) hlt x2, keepc (by go_grown) hlt x3, keepc (by go_grown) hlt x4, keepc (by go_grown) hyl7 y0, keepc (by go_grown) hyl7 y1, keepc (by go_grown) hyl7 y2, keepc (by go_grown) hyl7 y3, keepc (by go_grown) hyl7 y4⟩
  clear hK K
  (try simp only [Act.put, List.setIfInBounds_toArray, List.set_cons_zero, List.set_cons_succ])
  refine tL 4 (some 49) ?_
  refine wpAnyH_done (by kernel_rfl) ?_ _
  clear hHeld
  go_upto_region 13 with fail
  refine code_gen (R := fun wb => Below w7.heap.size w7 wb) (show Below w7.heap.size w7 _ by go_grown) ?_
  clear hb8 ht8 hb9 ht9 HMD
  intro wa hq
  have HOGa := Go.Lib.hid (HOG7.out.below hq)
  have HVWa := Go.Lib.hid (HVW7.out.below (hq.mono (by omega)))
  have HRMa := Go.Lib.hid (HRM7.out.below hq)
  have z0 := keepc hq hyl7 y0
  have z1 := keepc hq hyl7 y1
  have z2 := keepc hq hyl7 y2
  have z3 := keepc hq hyl7 y3
  have z4 := keepc hq hyl7 y4
  have hyla := Nat.lt_of_lt_of_le hyl7 hq.size
  have HXa := Go.Lib.hid (HX7.out.below hq)
  have hs7a := hq.size
  clear hq x0 x1 x2 x3 x4 y0 y1 y2 y3 y4 hlt HOG7 HVW7 HRM7 HX7 HMK HM7
  have hgu := HGU.out
  have hgl := HGL.out
  have hna : ¬ (w3.heap.size ≤ wa.heap.size ∧ wa.heap.size < gx) := fun h => by have := h.2; omega
  go_wp2_with fail
  refine (c_markModel (T := fun b => w3.heap.size ≤ b ∧ b < gx) ⟨hgl.1, hgu.1⟩ ⟨hgl.2.1, hgu.2.1⟩ ⟨hgl.2.2.1, hgu.2.2.1⟩ ⟨hgl.2.2.2.1, hgu.2.2.2.1⟩ ⟨hgl.2.2.2.2, hgu.2.2.2.2⟩ k0 k1 k2 k3 k4 wa hna HRMa.out).mono ?_
  rintro e wb ⟨⟨q, rfl, hq0⟩, ht⟩
  have HOGb := Go.Lib.hid (HOGa.out.touch ht (fun g h1 _ h3 => by have := h3.2; omega))
  have HVWb := Go.Lib.hid (HVWa.out.below (ht.belowAt (B := w3.heap.size) (by omega) (fun k hk => hk.1)))
  have HXb := Go.Lib.hid (HXa.out.belowB (ht.belowAt (B := w3.heap.size) (by omega) (fun k hk => hk.1)) hW3)
  have hsab := ht.size
  clear ht z0 z1 z2 z3 z4 hyla HOGa HVWa HRMa HXa hgu hgl hna
  have hqn : ¬ q < 0 := by omega
  go_wp2_with fail
  refine (c_eqValueS (B := wb.heap.size) wb (Nat.le_refl _) (by have := HOGb.out.vals HXGL.out.symm; rw [HZG.out] at this; exact this) (HVWb.out.mono (by omega))).mono ?_
  rintro e wc ⟨rfl, hq⟩
  have HOGc := Go.Lib.hid (HOGb.out.below hq)
  have HVWc := Go.Lib.hid (HVWb.out.below (hq.mono (by omega)))
  have HXc := Go.Lib.hid (HXb.out.below hq)
  have hsbc := hq.size
  clear hq HOGb HVWb HXb
  have HLN := Go.Lib.hid (show ∀ p ∈ xg, p.2.length ≤ 4 from fun p hp => HSM.out.2 _ (by rw [← HZG.out]; exact List.mem_map_of_mem hp))
  have hof := offs_le xg HLN.out
  have hxl60 : xg.length ≤ 60 := by have := HXGL.out; omega
  obtain ⟨of, hofe⟩ : ∃ of, offs xg xg.length = of := ⟨_, rfl⟩
  have hof0 : 0 ≤ of := by rw [← hofe]; have := offs_mono xg (Nat.zero_le xg.length); simpa [offs] using this
  rw [hofe] at hof
  have HOF := Go.Lib.hid hofe
  clear hofe
  go_wp2_with fail
  refine (c_markValueS (base := w5.heap.size) (xs := xg) 1 (by decide) HXGL.out.symm (by rw [HOF.out]; omega) (by omega) (fun p hp => by have := HLN.out p hp; omega) wc HOGc.out).mono ?_
  rintro e wd ⟨rfl, ht, hhd⟩
  rw [HOF.out]
  have HVWd := Go.Lib.hid (HVWc.out.below (ht.belowAt (B := w3.heap.size) (by omega) (fun k hk => by obtain ⟨p, hp, hk⟩ := hk; have := ((HOGc.out.own p hp).1.lt k hk).1; omega)))
  have HXd := Go.Lib.hid (HXc.out.belowB (ht.belowAt (B := w3.heap.size) (by omega) (fun k hk => by obtain ⟨p, hp, hk⟩ := hk; have := ((HOGc.out.own p hp).1.lt k hk).1; omega)) hW3)
  have HHd := Go.Lib.hid hhd
  have hscd := ht.size
  clear ht hhd HVWc HXc HOGc
  go_wp2_with fail
  refine (c_heldValueS (base := w5.heap.size) (xs := xg) 1 (by decide) HXGL.out.symm (by rw [HOF.out]; omega) (by omega) (fun p hp => by have := HLN.out p hp; omega) wd HHd.out).mono ?_
  rintro e we ⟨rfl, rfl⟩
  rw [HOF.out]
  have hp1 : ¬ (1 + of) < 0 := by omega
  obtain ⟨hlt, x0, x1, x2, x3, x4, hBx⟩ := HXd.out
  have hBd : W.heap.size ≤ wd.heap.size := hBx.size
  have HMd := Go.Lib.hid (HMA.out.below hBx)
  clear hBx
  go_wp2_with fail
  refine (c_toModel (B := W.heap.size) (s0 := s0) (s1 := s1) (s2 := s2) (s3 := s3) (s4 := s4) wd hBd HMd.out k0 k1 k2 k3 k4).mono ?_
  rintro e wf ⟨b0, b1, b2, b3, b4, rfl, hma, hgl, hrm, hq⟩
  have HMf := Go.Lib.hid hma
  have HVWf := Go.Lib.hid (HVWd.out.below (hq.mono (by omega)))
  have HXf := Go.Lib.hid (HXd.out.below hq)
  have HHf := Go.Lib.hid (HHd.out.below hq)
  have hsdf := hq.size
  clear hq x0 x1 x2 x3 x4 hlt hma hgl hrm HMd HVWd HXd HHd
  go_wp2_with fail
  refine (c_InputOfI (B := wf.heap.size) cd wf (Nat.le_refl _) HMf.out).mono ?_
  rintro e wg ⟨vh, xh, bh, rfl, hoh, hpj, hq⟩
  obtain ⟨hzh, rfl⟩ := OfIs.inj hpj HPI.out
  obtain ⟨ah, ch, rfl⟩ := hoh.len
  have hxhl : xh.length = zss.length := by rw [← hzh, List.length_map]
  have HVHg := Go.Lib.hid (show ValsAt wg.heap.size wg ah zss.length ch zss from by have := hoh.vals rfl; rw [hzh, hxhl] at this; exact this)
  rw [hxhl]
  have HVWg := Go.Lib.hid (HVWf.out.below (hq.mono (by omega)))
  have HXg := Go.Lib.hid (HXf.out.below hq)
  have HHg := Go.Lib.hid (HHf.out.below hq)
  have hsfg := hq.size
  clear hq hoh hpj hzh hxhl HMf HVWf HXf HHf
  go_wp2_with fail
  refine (c_eqValueS (B := wg.heap.size) wg (Nat.le_refl _) HVHg.out (HVWg.out.mono (by omega))).mono ?_
  rintro e wh ⟨rfl, hq⟩
  have HXh := Go.Lib.hid (HXg.out.below hq)
  have HHh := Go.Lib.hid (HHg.out.below hq)
  clear hq HXg HHg HVHg HVWg
  go_wp2_with fail
  refine (c_heldValueS (base := w5.heap.size) (xs := xg) 1 (by decide) HXGL.out.symm (by rw [HOF.out]; omega) (by omega) (fun p hp => by have := HLN.out p hp; omega) wh HHh.out).mono ?_
  rintro e wi ⟨rfl, rfl⟩
  rw [HOF.out]
  go_wp2_with fail
  go_ret
  exact ⟨rfl, HXh.out.2.2.2.2.2.2⟩
end Go.Proofs.YtdfcjfielkpkiaaGreat
