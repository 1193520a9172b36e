/-
  Parts: EvF, shortened.
-/
import Derived.Test.YtpoejfcaoijjjaaGreatZEvR
namespace Go.Proofs.YtpoejfcaoijjjaaGreat
open Go.Lib
open Go.ChangeShapes Go.WideShapes Go.ChangeAt Go.RowKit Go.Maps
set_option linter.unusedVariables false
set_option maxRecDepth 100000
def HoldP (M : MD) (ss is : List (List Int)) : Prop := MomP M ss is ∧ holdsP M.holds (evs M.ns ss is M.ns.length)
set_option maxHeartbeats 16000000 in
theorem c_EvalHoldsS {B : Nat} {s0 s1 s2 s3 s4 : SL} {M : MD} {sa ia : Option Addr} {sl sc il ic : Nat} {ss is : List (List Int)} (w : World) (hBw : B ≤ w.heap.size) (h : ModelAt B w s0 s1 s2 s3 s4 M) (hs : ValsAt B w sa sl sc ss) (hi : ValsAt B w ia il ic is) :
  Calls Tryz.prog 26 #[.agg (mcells s0 s1 s2 s3 s4).toArray, .slice sa sl sc, .slice ia il ic] w fun e w' => BoolIs (HoldP M ss is) e ∧ Below w.heap.size w w' := by
 have HMA := hid h
 have HS := hid hs
 have HI := hid hi
 clear h hs hi
 simp only [mcells]
 go_enter Tryz.func26, Tryz.ntmps26
 go_upto_region 1 with fail
 refine code_gen (R := fun wb => Boxed s0 s1 s2 s3 s4 w wb) (Boxed.new _ _ _ _ _ _ _) ?_
 intro w0 hbox
 have HX0 := hid hbox
 obtain ⟨hlt, x0, x1, x2, x3, x4, hBx⟩ := hbox
 have hBk := Nat.le_trans hBw hBx.size
 have HM0 := hid (HMA.out.below (hBx.mono hBw))
 have HS0 := hid (HS.out.below (hBx.mono hBw))
 have HI0 := hid (HI.out.below (hBx.mono hBw))
 have HBX := hid hBx
 clear hBx
 by_cases hf : FitM 36 M ss
 rotate_left
 ·have HF := hid hf
  clear hf
  refine wp_region_held_drew (S := (fun w' => w'.cell? ⟨w.heap.size, 0, none⟩ = some (.slice s0.a s0.len s0.cap) ∧ w'.cell? ⟨w.heap.size, 1, none⟩ = some (.slice s1.a s1.len s1.cap) ∧ w'.cell? ⟨w.heap.size, 2, none⟩ = some (.slice s2.a s2.len s2.cap) ∧ w'.cell? ⟨w.heap.size, 3, none⟩ = some (.slice s3.a s3.len s3.cap) ∧ w'.cell? ⟨w.heap.size, 4, none⟩ = some (.slice s4.a s4.len s4.cap))) (by kernel_rfl) ?_ (fun hHeld => ?_)
  ·first | exact ⟨x0, x1, x2, x3, x4⟩ | exact ⟨keepc HQ4.out hlt x0, keepc HQ4.out hlt x1, keepc HQ4.out hlt x2, keepc HQ4.out hlt x3, keepc HQ4.out hlt x4⟩ | exact ⟨keepc HQ3.out hlt x0, keepc HQ3.out hlt x1, keepc HQ3.out hlt x2, keepc HQ3.out hlt x3, keepc HQ3.out hlt x4⟩ | exact ⟨keepc HQ2.out hlt x0, keepc HQ2.out hlt x1, keepc HQ2.out hlt x2, keepc HQ2.out hlt x3, keepc HQ2.out hlt x4⟩ | exact ⟨keepc HQ1.out hlt x0, keepc HQ1.out hlt x1, keepc HQ1.out hlt x2, keepc HQ1.out hlt x3, keepc HQ1.out hlt x4⟩
  refine tL 0 (some 7) ?_
  refine tL 1 (some 8) ?_
  refine wpAnyH_ready (rs := [2]) (by kernel_rfl) (by simp) ?_
  refine AllReadyH.cons (o := _) rfl (fun K hK => ?_) AllReadyH.nil
  go_simp
  refine (c_StateFitsS (B := B) (s0 := s0) (s1 := s1) (s2 := s2) (s3 := s3) (s4 := s4) w0.drew hBk (HM0.out.below (Below.refl B w0).drew) (HS0.out.below (Below.refl B w0).drew)).mono ?_
  rintro e w1 ⟨hb, hq⟩
  have hq1 : Below w0.heap.size w0 w1 := ⟨hq.os, hq.tape, hq.output, hq.size, hq.block⟩
  have HQ1 := hid hq1
  obtain rfl := boolIs_f HF.out hb
  clear hq hq1 hb
  (try go_wp2_with fail)
  (try clear hHeld)
  refine hK.out _ _ ?_ (fun hHeld => ?_)
  ·first | exact ⟨x0, x1, x2, x3, x4⟩ | exact ⟨keepc HQ4.out hlt x0, keepc HQ4.out hlt x1, keepc HQ4.out hlt x2, keepc HQ4.out hlt x3, keepc HQ4.out hlt x4⟩ | exact ⟨keepc HQ3.out hlt x0, keepc HQ3.out hlt x1, keepc HQ3.out hlt x2, keepc HQ3.out hlt x3, keepc HQ3.out hlt x4⟩ | exact ⟨keepc HQ2.out hlt x0, keepc HQ2.out hlt x1, keepc HQ2.out hlt x2, keepc HQ2.out hlt x3, keepc HQ2.out hlt x4⟩ | exact ⟨keepc HQ1.out hlt x0, keepc HQ1.out hlt x1, keepc HQ1.out hlt x2, keepc HQ1.out hlt x3, keepc HQ1.out hlt x4⟩
  clear hK K
  (try simp only [Act.put, List.setIfInBounds_toArray, List.set_cons_zero, List.set_cons_succ])
  refine tL 3 (some 10) ?_
  refine tU 4 (some 11) ?_
  refine tU 5 (some 12) ?_
  refine tU 6 (some 13) ?_
  refine tL 7 (some 14) ?_
  refine tL 8 (some 15) ?_
  refine tU 9 (some 16) ?_
  refine tU 10 (some 17) ?_
  refine tU 11 (some 18) ?_
  refine tU 12 (some 19) ?_
  refine tU 13 (some 20) ?_
  refine tU 14 (some 21) ?_
  refine tL 15 (some 22) ?_
  refine tL 16 (some 6) ?_
  refine wpAnyH_done (by kernel_rfl) ?_ _
  clear hHeld
  go_wp2_with fail
  go_ret
  exact ⟨BoolIs.no (fun h => HF.out h.1.1), HBX.out.trans (HQ1.out.mono HBX.out.size)⟩
 have HF := hid hf
 by_cases hi : FitM 35 M is
 rotate_left
 ·have HFI := hid hi
  clear hi hf
  refine wp_region_held_drew (S := (fun w' => w'.cell? ⟨w.heap.size, 0, none⟩ = some (.slice s0.a s0.len s0.cap) ∧ w'.cell? ⟨w.heap.size, 1, none⟩ = some (.slice s1.a s1.len s1.cap) ∧ w'.cell? ⟨w.heap.size, 2, none⟩ = some (.slice s2.a s2.len s2.cap) ∧ w'.cell? ⟨w.heap.size, 3, none⟩ = some (.slice s3.a s3.len s3.cap) ∧ w'.cell? ⟨w.heap.size, 4, none⟩ = some (.slice s4.a s4.len s4.cap))) (by kernel_rfl) ?_ (fun hHeld => ?_)
  ·first | exact ⟨x0, x1, x2, x3, x4⟩ | exact ⟨keepc HQ4.out hlt x0, keepc HQ4.out hlt x1, keepc HQ4.out hlt x2, keepc HQ4.out hlt x3, keepc HQ4.out hlt x4⟩ | exact ⟨keepc HQ3.out hlt x0, keepc HQ3.out hlt x1, keepc HQ3.out hlt x2, keepc HQ3.out hlt x3, keepc HQ3.out hlt x4⟩ | exact ⟨keepc HQ2.out hlt x0, keepc HQ2.out hlt x1, keepc HQ2.out hlt x2, keepc HQ2.out hlt x3, keepc HQ2.out hlt x4⟩ | exact ⟨keepc HQ1.out hlt x0, keepc HQ1.out hlt x1, keepc HQ1.out hlt x2, keepc HQ1.out hlt x3, keepc HQ1.out hlt x4⟩
  refine tL 0 (some 7) ?_
  refine tL 1 (some 8) ?_
  refine wpAnyH_ready (rs := [2]) (by kernel_rfl) (by simp) ?_
  refine AllReadyH.cons (o := _) rfl (fun K hK => ?_) AllReadyH.nil
  go_simp
  refine (c_StateFitsS (B := B) (s0 := s0) (s1 := s1) (s2 := s2) (s3 := s3) (s4 := s4) w0.drew hBk (HM0.out.below (Below.refl B w0).drew) (HS0.out.below (Below.refl B w0).drew)).mono ?_
  rintro e w1 ⟨hb, hq⟩
  have hq1 : Below w0.heap.size w0 w1 := ⟨hq.os, hq.tape, hq.output, hq.size, hq.block⟩
  have HQ1 := hid hq1
  obtain rfl := boolIs_t HF.out hb
  clear hq hq1 hb
  (try go_wp2_with fail)
  (try clear hHeld)
  refine hK.out _ _ ?_ (fun hHeld => ?_)
  ·first | exact ⟨x0, x1, x2, x3, x4⟩ | exact ⟨keepc HQ4.out hlt x0, keepc HQ4.out hlt x1, keepc HQ4.out hlt x2, keepc HQ4.out hlt x3, keepc HQ4.out hlt x4⟩ | exact ⟨keepc HQ3.out hlt x0, keepc HQ3.out hlt x1, keepc HQ3.out hlt x2, keepc HQ3.out hlt x3, keepc HQ3.out hlt x4⟩ | exact ⟨keepc HQ2.out hlt x0, keepc HQ2.out hlt x1, keepc HQ2.out hlt x2, keepc HQ2.out hlt x3, keepc HQ2.out hlt x4⟩ | exact ⟨keepc HQ1.out hlt x0, keepc HQ1.out hlt x1, keepc HQ1.out hlt x2, keepc HQ1.out hlt x3, keepc HQ1.out hlt x4⟩
  clear hK K
  (try simp only [Act.put, List.setIfInBounds_toArray, List.set_cons_zero, List.set_cons_succ])
  refine tL 3 (some 10) ?_
  refine tL 4 (some 11) ?_
  refine tL 5 (some 12) ?_
  refine wpAnyH_ready (rs := [6]) (by kernel_rfl) (by simp) ?_
  refine AllReadyH.cons (o := _) rfl (fun K hK => ?_) AllReadyH.nil
  go_simp
  refine (c_InputFitsS (B := B) (s0 := s0) (s1 := s1) (s2 := s2) (s3 := s3) (s4 := s4) w1 (Nat.le_trans hBk HQ1.out.size) (HM0.out.below (HQ1.out.mono hBk)) (HI0.out.below (HQ1.out.mono hBk))).mono ?_
  rintro e w2 ⟨hb, hq⟩
  have HQ2 := hid (HQ1.out.trans (hq.mono HQ1.out.size))
  obtain rfl := boolIs_f HFI.out hb
  clear hq hb
  (try go_wp2_with fail)
  (try clear hHeld)
  refine hK.out _ _ ?_ (fun hHeld => ?_)
  ·first | exact ⟨x0, x1, x2, x3, x4⟩ | exact ⟨keepc HQ4.out hlt x0, keepc HQ4.out hlt x1, keepc HQ4.out hlt x2, keepc HQ4.out hlt x3, keepc HQ4.out hlt x4⟩ | exact ⟨keepc HQ3.out hlt x0, keepc HQ3.out hlt x1, keepc HQ3.out hlt x2, keepc HQ3.out hlt x3, keepc HQ3.out hlt x4⟩ | exact ⟨keepc HQ2.out hlt x0, keepc HQ2.out hlt x1, keepc HQ2.out hlt x2, keepc HQ2.out hlt x3, keepc HQ2.out hlt x4⟩ | exact ⟨keepc HQ1.out hlt x0, keepc HQ1.out hlt x1, keepc HQ1.out hlt x2, keepc HQ1.out hlt x3, keepc HQ1.out hlt x4⟩
  clear hK K
  (try simp only [Act.put, List.setIfInBounds_toArray, List.set_cons_zero, List.set_cons_succ])
  refine tL 7 (some 14) ?_
  refine tL 8 (some 15) ?_
  refine tU 9 (some 16) ?_
  refine tU 10 (some 17) ?_
  refine tU 11 (some 18) ?_
  refine tU 12 (some 19) ?_
  refine tU 13 (some 20) ?_
  refine tU 14 (some 21) ?_
  refine tL 15 (some 22) ?_
  refine tL 16 (some 6) ?_
  refine wpAnyH_done (by kernel_rfl) ?_ _
  clear hHeld
  go_wp2_with fail
  go_ret
  exact ⟨BoolIs.no (fun h => HFI.out h.1.2), HBX.out.trans (HQ2.out.mono HBX.out.size)⟩
 have HFI := hid hi
 have HC := hid hf.1
 have HF36 := hid hf.2
 have HF35 := hid hi.2
 have HG := hid (code0_parts hf.1).1
 have hn0 : M.ns.length = s0.len := HMA.out.ns.1
 have h60 : s0.len ≤ 60 := by have h1 := code0_len hf.1; omega
 have HPI := hid (show PropIn s0.len M.holds (evs M.ns ss is M.ns.length) from by have := props_in HG.out HF36.out HF35.out (code0_parts hf.1).2.2; rw [← hn0]; exact this)
 have HN0 := hid hn0
 clear hn0
 clear hf hi
 refine wp_region_held_drew (S := (fun w' => w'.cell? ⟨w.heap.size, 0, none⟩ = some (.slice s0.a s0.len s0.cap) ∧ w'.cell? ⟨w.heap.size, 1, none⟩ = some (.slice s1.a s1.len s1.cap) ∧ w'.cell? ⟨w.heap.size, 2, none⟩ = some (.slice s2.a s2.len s2.cap) ∧ w'.cell? ⟨w.heap.size, 3, none⟩ = some (.slice s3.a s3.len s3.cap) ∧ w'.cell? ⟨w.heap.size, 4, none⟩ = some (.slice s4.a s4.len s4.cap))) (by kernel_rfl) ?_ (fun hHeld => ?_)
 ·first | exact ⟨x0, x1, x2, x3, x4⟩ | exact ⟨keepc HQ4.out hlt x0, keepc HQ4.out hlt x1, keepc HQ4.out hlt x2, keepc HQ4.out hlt x3, keepc HQ4.out hlt x4⟩ | exact ⟨keepc HQ3.out hlt x0, keepc HQ3.out hlt x1, keepc HQ3.out hlt x2, keepc HQ3.out hlt x3, keepc HQ3.out hlt x4⟩ | exact ⟨keepc HQ2.out hlt x0, keepc HQ2.out hlt x1, keepc HQ2.out hlt x2, keepc HQ2.out hlt x3, keepc HQ2.out hlt x4⟩ | exact ⟨keepc HQ1.out hlt x0, keepc HQ1.out hlt x1, keepc HQ1.out hlt x2, keepc HQ1.out hlt x3, keepc HQ1.out hlt x4⟩
 refine tL 0 (some 7) ?_
 refine tL 1 (some 8) ?_
 refine wpAnyH_ready (rs := [2]) (by kernel_rfl) (by simp) ?_
 refine AllReadyH.cons (o := _) rfl (fun K hK => ?_) AllReadyH.nil
 go_simp
 refine (c_StateFitsS (B := B) (s0 := s0) (s1 := s1) (s2 := s2) (s3 := s3) (s4 := s4) w0.drew hBk (HM0.out.below (Below.refl B w0).drew) (HS0.out.below (Below.refl B w0).drew)).mono ?_
 rintro e w1 ⟨hb, hq⟩
 have hq1 : Below w0.heap.size w0 w1 := ⟨hq.os, hq.tape, hq.output, hq.size, hq.block⟩
 have HQ1 := hid hq1
 obtain rfl := boolIs_t HF.out hb
 clear hq hq1 hb
 (try go_wp2_with fail)
 (try clear hHeld)
 refine hK.out _ _ ?_ (fun hHeld => ?_)
 ·first | exact ⟨x0, x1, x2, x3, x4⟩ | exact ⟨keepc HQ4.out hlt x0, keepc HQ4.out hlt x1, keepc HQ4.out hlt x2, keepc HQ4.out hlt x3, keepc HQ4.out hlt x4⟩ | exact ⟨keepc HQ3.out hlt x0, keepc HQ3.out hlt x1, keepc HQ3.out hlt x2, keepc HQ3.out hlt x3, keepc HQ3.out hlt x4⟩ | exact ⟨keepc HQ2.out hlt x0, keepc HQ2.out hlt x1, keepc HQ2.out hlt x2, keepc HQ2.out hlt x3, keepc HQ2.out hlt x4⟩ | exact ⟨keepc HQ1.out hlt x0, keepc HQ1.out hlt x1, keepc HQ1.out hlt x2, keepc HQ1.out hlt x3, keepc HQ1.out hlt x4⟩
 clear hK K
 (try simp only [Act.put, List.setIfInBounds_toArray, List.set_cons_zero, List.set_cons_succ])
 refine tL 3 (some 10) ?_
 refine tL 4 (some 11) ?_
 refine tL 5 (some 12) ?_
 refine wpAnyH_ready (rs := [6]) (by kernel_rfl) (by simp) ?_
 refine AllReadyH.cons (o := _) rfl (fun K hK => ?_) AllReadyH.nil
 go_simp
 refine (c_InputFitsS (B := B) (s0 := s0) (s1 := s1) (s2 := s2) (s3 := s3) (s4 := s4) w1 (Nat.le_trans hBk HQ1.out.size) (HM0.out.below (HQ1.out.mono hBk)) (HI0.out.below (HQ1.out.mono hBk))).mono ?_
 rintro e w2 ⟨hb, hq⟩
 have HQ2 := hid (HQ1.out.trans (hq.mono HQ1.out.size))
 obtain rfl := boolIs_t HFI.out hb
 clear hq hb
 (try go_wp2_with fail)
 (try clear hHeld)
 refine hK.out _ _ ?_ (fun hHeld => ?_)
 ·first | exact ⟨x0, x1, x2, x3, x4⟩ | exact ⟨keepc HQ4.out hlt x0, keepc HQ4.out hlt x1, keepc HQ4.out hlt x2, keepc HQ4.out hlt x3, keepc HQ4.out hlt x4⟩ | exact ⟨keepc HQ3.out hlt x0, keepc HQ3.out hlt x1, keepc HQ3.out hlt x2, keepc HQ3.out hlt x3, keepc HQ3.out hlt x4⟩ | exact ⟨keepc HQ2.out hlt x0, keepc HQ2.out hlt x1, keepc HQ2.out hlt x2, keepc HQ2.out hlt x3, keepc HQ2.out hlt x4⟩ | exact ⟨keepc HQ1.out hlt x0, keepc HQ1.out hlt x1, keepc HQ1.out hlt x2, keepc HQ1.out hlt x3, keepc HQ1.out hlt x4⟩
 clear hK K
 (try simp only [Act.put, List.setIfInBounds_toArray, List.set_cons_zero, List.set_cons_succ])
 refine tL 7 (some 14) ?_
 refine tL 8 (some 15) ?_
 refine tL 9 (some 16) ?_
 refine tL 10 (some 17) ?_
 refine tL 11 (some 18) ?_
 refine tL 12 (some 19) ?_
 refine wpAnyH_ready (rs := [13]) (by kernel_rfl) (by simp) ?_
 refine AllReadyH.cons (o := _) rfl (fun K hK => ?_) AllReadyH.nil
 go_simp
 refine (c_l4All (B := B) (s0 := s0) (s1 := s1) (s2 := s2) (s3 := s3) (s4 := s4) w2 (Nat.le_trans hBk HQ2.out.size) (HM0.out.below (HQ2.out.mono hBk)) (HS0.out.below (HQ2.out.mono hBk)) (HI0.out.below (HQ2.out.mono hBk)) h60 HG.out HF36.out HF35.out).mono ?_
 rintro e w3 ⟨v, xs, rfl, hv, hx, hq'⟩
 obtain ⟨va, vc, rfl⟩ := hv.len
 have hq : Below w2.heap.size w2 w3 := ⟨hq'.os, hq'.tape, hq'.output, hq'.size, hq'.block⟩
 have hxl : xs.length = s0.len := by have := congrArg List.length hx; rw [evs_len] at this; have := HN0.out; simp at *; omega
 have HVL := hid (show ValsAt w3.heap.size w3 va xs.length vc (evs M.ns ss is M.ns.length) from hx ▸ hv.vals rfl)
 rw [hxl] at HVL ⊢
 have HQ3 := hid (HQ2.out.trans (hq.mono HQ2.out.size))
 clear hv hx hq hq' hxl
 (try go_wp2_with fail)
 (try clear hHeld)
 refine hK.out _ _ ?_ (fun hHeld => ?_)
 ·first | exact ⟨x0, x1, x2, x3, x4⟩ | exact ⟨keepc HQ4.out hlt x0, keepc HQ4.out hlt x1, keepc HQ4.out hlt x2, keepc HQ4.out hlt x3, keepc HQ4.out hlt x4⟩ | exact ⟨keepc HQ3.out hlt x0, keepc HQ3.out hlt x1, keepc HQ3.out hlt x2, keepc HQ3.out hlt x3, keepc HQ3.out hlt x4⟩ | exact ⟨keepc HQ2.out hlt x0, keepc HQ2.out hlt x1, keepc HQ2.out hlt x2, keepc HQ2.out hlt x3, keepc HQ2.out hlt x4⟩ | exact ⟨keepc HQ1.out hlt x0, keepc HQ1.out hlt x1, keepc HQ1.out hlt x2, keepc HQ1.out hlt x3, keepc HQ1.out hlt x4⟩
 clear hK K
 (try simp only [Act.put, List.setIfInBounds_toArray, List.set_cons_zero, List.set_cons_succ])
 refine wpAnyH_ready (rs := [14]) (by kernel_rfl) (by simp) ?_
 refine AllReadyH.cons (o := _) rfl (fun K hK => ?_) AllReadyH.nil
 go_simp
 refine (c_l4Holds (B := w3.heap.size) (s0 := s0) (s1 := s1) (s2 := s2) (s3 := s3) (s4 := s4) w3 (Nat.le_refl _) ((HM0.out.below (HQ3.out.mono hBk)).mono (Nat.le_trans hBk HQ3.out.size)) HVL.out HPI.out).mono ?_
 rintro e w4 ⟨⟨r, rfl, hr⟩, hq⟩
 have HR := hid hr
 have HQ4 := hid (HQ3.out.trans (hq.mono HQ3.out.size))
 clear hr hq
 (try go_wp2_with fail)
 (try clear hHeld)
 refine hK.out _ _ ?_ (fun hHeld => ?_)
 ·first | exact ⟨x0, x1, x2, x3, x4⟩ | exact ⟨keepc HQ4.out hlt x0, keepc HQ4.out hlt x1, keepc HQ4.out hlt x2, keepc HQ4.out hlt x3, keepc HQ4.out hlt x4⟩ | exact ⟨keepc HQ3.out hlt x0, keepc HQ3.out hlt x1, keepc HQ3.out hlt x2, keepc HQ3.out hlt x3, keepc HQ3.out hlt x4⟩ | exact ⟨keepc HQ2.out hlt x0, keepc HQ2.out hlt x1, keepc HQ2.out hlt x2, keepc HQ2.out hlt x3, keepc HQ2.out hlt x4⟩ | exact ⟨keepc HQ1.out hlt x0, keepc HQ1.out hlt x1, keepc HQ1.out hlt x2, keepc HQ1.out hlt x3, keepc HQ1.out hlt x4⟩
 clear hK K
 (try simp only [Act.put, List.setIfInBounds_toArray, List.set_cons_zero, List.set_cons_succ])
 refine tL 15 (some 22) ?_
 refine tL 16 (some 6) ?_
 refine wpAnyH_done (by kernel_rfl) ?_ _
 clear hHeld
 go_wp2_with fail
 go_ret
 exact ⟨⟨r, rfl, HR.out.trans ⟨fun h => ⟨⟨HF.out, HFI.out⟩, h⟩, fun h => h.2⟩⟩, HBX.out.trans (HQ4.out.mono HBX.out.size)⟩
set_option maxHeartbeats 16000000 in
theorem c_EvalHoldsI {B : Nat} {s0 s1 s2 s3 s4 : SL} {M : MD} {sa ia : Option Addr} {sl sc il ic : Nat} {ss is : List (List Int)} (w : World) (hBw : B ≤ w.heap.size) (h : ModelAt B w s0 s1 s2 s3 s4 M) (hs : ValsAt B w sa sl sc ss) (hi : ValsAt B w ia il ic is) :
  Calls Tryz.prog 27 #[.agg (mcells s0 s1 s2 s3 s4).toArray, .slice sa sl sc, .slice ia il ic] w fun e w' => BoolIs (HoldP M ss is) e ∧ Below w.heap.size w w' := by
 have HMA := hid h
 have HS := hid hs
 have HI := hid hi
 clear h hs hi
 simp only [mcells]
 go_enter Tryz.func27, Tryz.ntmps27
 go_upto_region 1 with fail
 refine code_gen (R := fun wb => Boxed s0 s1 s2 s3 s4 w wb) (Boxed.new _ _ _ _ _ _ _) ?_
 intro w0 hbox
 have HX0 := hid hbox
 obtain ⟨hlt, x0, x1, x2, x3, x4, hBx⟩ := hbox
 have hBk := Nat.le_trans hBw hBx.size
 have HM0 := hid (HMA.out.below (hBx.mono hBw))
 have HS0 := hid (HS.out.below (hBx.mono hBw))
 have HI0 := hid (HI.out.below (hBx.mono hBw))
 have HBX := hid hBx
 clear hBx
 go_wp2_with fail
 refine (c_momentFits (B := B) (s0 := s0) (s1 := s1) (s2 := s2) (s3 := s3) (s4 := s4) w0 hBk HM0.out HS0.out HI0.out).mono ?_
 rintro e w1 ⟨hb, hq⟩
 have HQ1 := hid hq
 have hB1 : B ≤ w1.heap.size := Nat.le_trans hBk hq.size
 have hlt1 : w.heap.size < w1.heap.size := Nat.lt_of_lt_of_le hlt hq.size
 by_cases hm : MomP M ss is
 rotate_left
 ·obtain rfl := boolIs_f hm hb
  have HMO := hid hm
  clear hm hb hq
  go_wp2_with fail
  go_ret
  exact ⟨BoolIs.no (fun h => HMO.out h.1), HBX.out.trans (HQ1.out.mono HBX.out.size)⟩
 obtain rfl := boolIs_t hm hb
 have HMO := hid hm
 obtain ⟨hf, hi⟩ := hm
 have HC := hid hf.1
 have HF36 := hid hf.2
 have HF35 := hid hi.2
 have HG := hid (code0_parts hf.1).1
 have hn0 : M.ns.length = s0.len := HMA.out.ns.1
 have h60 : s0.len ≤ 60 := by have h1 := code0_len hf.1; omega
 have HPI := hid (show PropIn s0.len M.holds (evs M.ns ss is M.ns.length) from by have := props_in HG.out HF36.out HF35.out (code0_parts hf.1).2.2; rw [← hn0]; exact this)
 have HN0 := hid hn0
 clear hn0
 have HM1 := hid (HM0.out.below (hq.mono hBk))
 have HS1 := hid (HS0.out.below (hq.mono hBk))
 have HI1 := hid (HI0.out.below (hq.mono hBk))
 have y0 := keepc hq hlt x0
 have y1 := keepc hq hlt x1
 have y2 := keepc hq hlt x2
 have y3 := keepc hq hlt x3
 have y4 := keepc hq hlt x4
 clear hf hi hb hq x0 x1 x2 x3 x4
 go_upto_region 3 with fail
 refine wp_region_held_drew (S := (fun w' => w'.cell? ⟨w.heap.size, 0, none⟩ = some (.slice s0.a s0.len s0.cap) ∧ w'.cell? ⟨w.heap.size, 1, none⟩ = some (.slice s1.a s1.len s1.cap) ∧ w'.cell? ⟨w.heap.size, 2, none⟩ = some (.slice s2.a s2.len s2.cap) ∧ w'.cell? ⟨w.heap.size, 3, none⟩ = some (.slice s3.a s3.len s3.cap) ∧ w'.cell? ⟨w.heap.size, 4, none⟩ = some (.slice s4.a s4.len s4.cap))) (by kernel_rfl) ?_ (fun hHeld => ?_)
 ·first | exact ⟨y0, y1, y2, y3, y4⟩ | exact ⟨keepc HQ4.out hlt1 y0, keepc HQ4.out hlt1 y1, keepc HQ4.out hlt1 y2, keepc HQ4.out hlt1 y3, keepc HQ4.out hlt1 y4⟩ | exact ⟨keepc HQ3.out hlt1 y0, keepc HQ3.out hlt1 y1, keepc HQ3.out hlt1 y2, keepc HQ3.out hlt1 y3, keepc HQ3.out hlt1 y4⟩
 refine tL 0 (some 12) ?_
 refine tL 1 (some 13) ?_
 refine tL 2 (some 14) ?_
 refine tL 3 (some 15) ?_
 refine tL 4 (some 16) ?_
 refine tL 5 (some 17) ?_
 refine wpAnyH_ready (rs := [6]) (by kernel_rfl) (by simp) ?_
 refine AllReadyH.cons (o := _) rfl (fun K hK => ?_) AllReadyH.nil
 go_simp
 refine (c_reckonAll (B := B) w1.drew hB1 (HM1.out.below (Below.refl B w1).drew).ns (HS1.out.below (Below.refl B w1).drew) (HI1.out.below (Below.refl B w1).drew) h60 HG.out HF36.out HF35.out).mono ?_
 rintro e w3 ⟨v, xs, rfl, hv, hx, hq'⟩
 obtain ⟨va, vc, rfl⟩ := hv.len
 have hq : Below w1.heap.size w1 w3 := ⟨hq'.os, hq'.tape, hq'.output, hq'.size, hq'.block⟩
 have hxl : xs.length = s0.len := by have := congrArg List.length hx; rw [evs_len] at this; have := HN0.out; simp at *; omega
 have HVL := hid (show ValsAt w3.heap.size w3 va xs.length vc (evs M.ns ss is M.ns.length) from hx ▸ hv.vals rfl)
 rw [hxl] at HVL ⊢
 have HQ3 := hid hq
 clear hv hx hq hq' hxl
 (try go_wp2_with fail)
 (try clear hHeld)
 refine hK.out _ _ ?_ (fun hHeld => ?_)
 ·first | exact ⟨y0, y1, y2, y3, y4⟩ | exact ⟨keepc HQ4.out hlt1 y0, keepc HQ4.out hlt1 y1, keepc HQ4.out hlt1 y2, keepc HQ4.out hlt1 y3, keepc HQ4.out hlt1 y4⟩ | exact ⟨keepc HQ3.out hlt1 y0, keepc HQ3.out hlt1 y1, keepc HQ3.out hlt1 y2, keepc HQ3.out hlt1 y3, keepc HQ3.out hlt1 y4⟩
 clear hK K
 (try simp only [Act.put, List.setIfInBounds_toArray, List.set_cons_zero, List.set_cons_succ])
 refine wpAnyH_ready (rs := [7]) (by kernel_rfl) (by simp) ?_
 refine AllReadyH.cons (o := _) rfl (fun K hK => ?_) AllReadyH.nil
 go_simp
 refine (c_allHold (B := w3.heap.size) w3 (Nat.le_refl _) ((HM1.out.holds.below (HQ3.out.mono hB1)).mono (Nat.le_trans hB1 HQ3.out.size)) HVL.out HPI.out).mono ?_
 rintro e w4 ⟨⟨r, rfl, hr⟩, hq⟩
 have HR := hid hr
 have HQ4 := hid (HQ3.out.trans (hq.mono HQ3.out.size))
 clear hr hq
 (try go_wp2_with fail)
 (try clear hHeld)
 refine hK.out _ _ ?_ (fun hHeld => ?_)
 ·first | exact ⟨y0, y1, y2, y3, y4⟩ | exact ⟨keepc HQ4.out hlt1 y0, keepc HQ4.out hlt1 y1, keepc HQ4.out hlt1 y2, keepc HQ4.out hlt1 y3, keepc HQ4.out hlt1 y4⟩ | exact ⟨keepc HQ3.out hlt1 y0, keepc HQ3.out hlt1 y1, keepc HQ3.out hlt1 y2, keepc HQ3.out hlt1 y3, keepc HQ3.out hlt1 y4⟩
 clear hK K
 (try simp only [Act.put, List.setIfInBounds_toArray, List.set_cons_zero, List.set_cons_succ])
 refine tL 8 (some 6) ?_
 refine wpAnyH_done (by kernel_rfl) ?_ _
 clear hHeld
 go_wp2_with fail
 go_ret
 exact ⟨⟨r, rfl, HR.out.trans ⟨fun h => ⟨HMO.out, h⟩, fun h => h.2⟩⟩, (HBX.out.trans (HQ1.out.mono HBX.out.size)).trans (HQ4.out.mono (Nat.le_of_lt hlt1))⟩
end Go.Proofs.YtpoejfcaoijjjaaGreat
