/-
  When a diagram is one: the model, whole.
-/
import Derived.Test.YthdofdglbdfkkaaDoorRows
import Derived.Test.YthdofdglbdfkkaaDoorG0
import Derived.Test.YthdofdglbdfkkaaDoorBdM
import Derived.Test.YthdofdglbdfkkaaDoorBdI
import Derived.Test.YthdofdglbdfkkaaDoorBdS
import Derived.WalkKit
import Derived.ProofKit
import Derived.OpenShut
import Derived.WalkSpells
import Derived.WalkLawsBesides
import Derived.Outline
import Derived.BigQuiet
import Derived.Handy
import Derived.LoopTactic
import Derived.Deep.Light
import Derived.Deep.RegionWith
import Derived.Deep.RegionHeld3
import Derived.Deep.DeepCutAuto
import Derived.Lib.Hide
import Derived.Maps.OwnRows
import Derived.Deep.Onto
import Derived.OneCell
import Derived.StillTailTactics
import Derived.Deep.AppendLies
import Derived.Deep.RegionLaw
namespace Go.Proofs.YthdofdglbdfkkaaDoor
open Go.ChangeShapes Go.WideShapes Go.ChangeAt Go.RowKit Go.Maps Go.ChangeMaps
set_option linter.unusedVariables false
set_option maxRecDepth 100000


theorem vAt_def (vars : Int) (ns : List BN) (p : Int) : vAt vars ns p = vAt vars ns p := rfl
set_option maxHeartbeats 32000000 in
theorem c_BddOkS {B : Nat} {a : Option Addr} {len cap : Nat} {ns : List BN} (vars root : Int) (w : World) (hBw : B ≤ w.heap.size) (h : BnsAt B w a len cap ns) :
    Calls Tryd.prog 42 #[.agg #[.int .i64 vars, .slice a len cap, .int .i64 root]] w fun e w' => BoolIs (OkB vars ns root) e ∧ Below w.heap.size w w' := by
  have HN := Go.Lib.hid h
  have hnl : ns.length = len := h.1
  have HNL := Go.Lib.hid hnl
  have hlm := Nat.le_trans h.2.1 h.2.2.1
  have hcap : len ≤ cap := h.2.1
  unfold maxLen at hlm
  clear h hnl
  go_enter Tryd.func42, Tryd.ntmps42
  go_upto_region 1 with fail
  refine code_gen (R := fun wb => BBox vars a len cap root w wb) (BBox.new _ _ _ _ _ _) ?_
  intro w0 hbox
  have HX0 := Go.Lib.hid hbox
  obtain ⟨x0, x1, x2⟩ := hbox.cells
  have HN0 := Go.Lib.hid (HN.out.below (hbox.bel.mono hBw))
  have hB0 : B ≤ w0.heap.size := Nat.le_trans hBw hbox.bel.size
  clear hbox
  have C1 := Go.Lib.hid (c_l7Vars vars w0)
  cases hv : varsB vars with
  | false =>
    rw [hv] at C1
    have HV := Go.Lib.hid hv
    clear hv
    go_wp2_with fail
    refine C1.out.mono ?_
    rintro e w' ⟨rfl, rfl⟩
    go_wp2_with fail
    go_ret
    exact ⟨BoolIs.no (fun h => by have := of_decide_eq_false HV.out; exact this h.hv), HX0.out.bel⟩
  | true =>
  rw [hv] at C1
  have HV := Go.Lib.hid hv
  have hvr := of_decide_eq_true hv
  have hvr0 := hvr.1
  have hvr1 := hvr.2
  clear hv hvr
  by_cases hl : len ≤ 600
  rotate_left
  · have hli : (600 : Int) < len := by omega
    go_wp2_with fail
    refine C1.out.mono ?_
    rintro e w' ⟨rfl, rfl⟩
    go_wp2_with fail
    go_ret
    exact ⟨BoolIs.no (fun h => by have := h.len; have := HNL.out; omega), HX0.out.bel⟩
  have hli : ¬ (600 : Int) < len := by omega
  by_cases hr : 0 ≤ root ∧ root ≤ (len : Int) + 1
  rotate_left
  · have HR := Go.Lib.hid hr
    have hrf : root < 0 ∨ (len : Int) + 1 < root := by omega
    have C2 := Go.Lib.hid (b_l1In_f root 0 ((len : Int) + 1) hrf w0)
    clear hr hrf
    go_wp2_with fail
    refine C1.out.mono ?_
    rintro e w' ⟨rfl, rfl⟩
    go_wp2_with fail
    refine C2.out.mono ?_
    rintro e w' ⟨rfl, rfl⟩
    go_wp2_with fail
    go_ret
    exact ⟨BoolIs.no (fun h => HR.out (by have := h.hr; have := HNL.out; omega)), HX0.out.bel⟩
  obtain ⟨hr0, hr1⟩ := hr
  have C2 := Go.Lib.hid (b_l1In_t root 0 ((len : Int) + 1) hr0 hr1 w0)
  go_wp2_with fail
  refine C1.out.mono ?_
  rintro e w' ⟨rfl, rfl⟩
  go_wp2_with fail
  refine C2.out.mono ?_
  rintro e w' ⟨rfl, rfl⟩
  go_wp2_with fail
  go_loopw [3] (fun i wr => ∃ k : Nat, k ≤ len ∧ i = .int .i64 k ∧ (∀ y : Nat, y < k → nFine vars ns y ∧ ∀ z : Nat, z < y → ns.getD y default ≠ ns.getD z default) ∧ BBox vars a len cap root w wr) (fun i _ => len - (intOf i).toNat)
  case atStart => exact ⟨0, by omega, rfl, fun y h => by omega, HX0.out⟩
  case round =>
    obtain ⟨k, hk, rfl, hno, hbox⟩ := hrel
    obtain ⟨wo, rfl⟩ : ∃ wo, wo = wr := ⟨_, rfl⟩
    have HNO := Go.Lib.hid hno
    have HX := Go.Lib.hid hbox
    clear hno hbox x0 x1 x2 HX0 C1 C2 HN0
    obtain ⟨x0, x1, x2⟩ := HX.out.cells
    by_cases hkl : k < len
    · have hki : (k : Int) < len := by omega
      obtain ⟨x, b, off, hx, -, rfl, hbB, c0, c1, c2⟩ := bn_at (HN.out.below (HX.out.bel.mono hBw)) hkl
      have HXD := Go.Lib.hid hx
      clear hx
      go_upto_region 7 with fail
      refine code_gen (R := fun wb => wb.heap[wo.heap.size]? = some (.cells #[.int .i64 x.v, .int .i64 x.lo, .int .i64 x.hi] 67 (0, 0)) ∧ Below wo.heap.size wo wb) ⟨by first | exact (MapKept.heap_alloc _ _).1 | exact heap_alloc_new _ _, by go_grown⟩ ?_
      rintro w1 ⟨k1, hb1⟩
      have HK1 := Go.Lib.hid k1
      have HX1 := Go.Lib.hid (HX.out.below hb1)
      have HN1 := Go.Lib.hid (HN.out.below (HX1.out.bel.mono hBw))
      have hB1 : B ≤ w1.heap.size := Nat.le_trans hBw HX1.out.bel.size
      have hB1d : B ≤ w1.drew.heap.size := hB1
      have HN1d := Go.Lib.hid (HN1.out.below (Below.refl B w1).drew)
      have hl1 : wo.heap.size < w1.heap.size := (Array.getElem?_eq_some_iff.1 k1).1
      have hl0 : w.heap.size < w1.heap.size := HX1.out.lt
      have n0 := cell_of_block (i := 0) k1 (v := .int .i64 x.v) rfl
      have n1 := cell_of_block (i := 1) k1 (v := .int .i64 x.lo) rfl
      have n2 := cell_of_block (i := 2) k1 (v := .int .i64 x.hi) rfl
      clear x0 x1 x2 c0 c1 c2 k1 hb1
      obtain ⟨x0, x1, x2⟩ := HX1.out.cells
      have hw1 : IntKind.i64.wrap (vars - 1) = vars - 1 := IntWalk.i64_in _ (by omega)
      have hw2 : IntKind.i64.wrap ((k : Int) + 1) = (k : Int) + 1 := IntWalk.i64_in _ (by omega)
      have HFD := Go.Lib.hid (show nFine vars ns k ↔ ((0 ≤ x.v ∧ x.v < vars) ∧ x.lo ≠ x.hi ∧ (0 ≤ x.lo ∧ x.lo ≤ (k : Int) + 1) ∧ (0 ≤ x.hi ∧ x.hi ≤ (k : Int) + 1) ∧ x.v < vAt vars ns x.lo ∧ x.v < vAt vars ns x.hi) by unfold nFine; rw [← HXD.out])
      by_cases hc1 : 0 ≤ x.v ∧ x.v ≤ vars - 1
      rotate_left
      · have hf : x.v < 0 ∨ vars - 1 < x.v := by omega
        have HNF := Go.Lib.hid (show ¬ nFine vars ns k from fun h => by have := (HFD.out.1 h).1; omega)
        clear hc1
        refine wp_region_held_drew (S := (fun w' => w'.cell? ⟨wo.heap.size, 0, none⟩ = some (.int .i64 x.v) ∧ w'.cell? ⟨wo.heap.size, 1, none⟩ = some (.int .i64 x.lo) ∧ w'.cell? ⟨wo.heap.size, 2, none⟩ = some (.int .i64 x.hi) ∧ w'.cell? ⟨w.heap.size, 0, none⟩ = some (.int .i64 vars) ∧ w'.cell? ⟨w.heap.size, 1, none⟩ = some (.slice (some ⟨b, off, none⟩) len cap) ∧ w'.cell? ⟨w.heap.size, 2, none⟩ = some (.int .i64 root))) (by kernel_rfl) ?_ (fun hHeld => ?_)
        · first | exact ⟨n0, n1, n2, x0, x1, x2⟩ | exact ⟨keepc HQ6.out hl1 n0, keepc HQ6.out hl1 n1, keepc HQ6.out hl1 n2, keepc HQ6.out hl0 x0, keepc HQ6.out hl0 x1, keepc HQ6.out hl0 x2⟩ | exact ⟨keepc HQ5.out hl1 n0, keepc HQ5.out hl1 n1, keepc HQ5.out hl1 n2, keepc HQ5.out hl0 x0, keepc HQ5.out hl0 x1, keepc HQ5.out hl0 x2⟩
        refine tL 0 (some 40) ?_
        refine tL 1 (some 41) ?_
        refine tL 2 (some 42) ?_
        refine tL 3 (some 43) ?_
        refine tL 4 (some 44) ?_
        refine wpAnyH_ready (rs := [5]) (by kernel_rfl) (by simp) ?_
        refine AllReadyH.cons (o := _) rfl (fun K hK => ?_) AllReadyH.nil
        go_simp
        first | (with_reducible refine (b_l1In_t _ _ _ hv1 hv2 _).mono ?_; rintro e w' ⟨rfl, rfl⟩) | (with_reducible refine (b_l1In_t _ _ _ ha1 ha2 _).mono ?_; rintro e w' ⟨rfl, rfl⟩) | (with_reducible refine (b_l1In_t _ _ _ hb1 hb2 _).mono ?_; rintro e w' ⟨rfl, rfl⟩) | (with_reducible refine (b_l1In_f _ _ _ hf _).mono ?_; rintro e w' ⟨rfl, rfl⟩)
        (try go_wp2_with fail)
        (try clear hHeld)
        refine hK.out _ _ ?_ (fun hHeld => ?_)
        · first | exact ⟨n0, n1, n2, x0, x1, x2⟩ | exact ⟨keepc HQ6.out hl1 n0, keepc HQ6.out hl1 n1, keepc HQ6.out hl1 n2, keepc HQ6.out hl0 x0, keepc HQ6.out hl0 x1, keepc HQ6.out hl0 x2⟩ | exact ⟨keepc HQ5.out hl1 n0, keepc HQ5.out hl1 n1, keepc HQ5.out hl1 n2, keepc HQ5.out hl0 x0, keepc HQ5.out hl0 x1, keepc HQ5.out hl0 x2⟩
        clear hK K
        (try simp only [Act.put, List.setIfInBounds_toArray, List.set_cons_zero, List.set_cons_succ])
        refine tL 6 (some 46) ?_
        refine tL 7 (some 47) ?_
        refine tU 8 (some 48) ?_
        refine tU 9 (some 49) ?_
        refine tU 10 (some 50) ?_
        refine tU 11 (some 51) ?_
        refine tU 12 (some 52) ?_
        refine tL 13 (some 53) ?_
        refine tL 14 (some 54) ?_
        refine tU 15 (some 55) ?_
        refine tU 16 (some 56) ?_
        refine tU 17 (some 57) ?_
        refine tU 18 (some 58) ?_
        refine tU 19 (some 59) ?_
        refine tU 20 (some 60) ?_
        refine tL 21 (some 61) ?_
        refine tL 22 (some 62) ?_
        refine tU 23 (some 63) ?_
        refine tU 24 (some 64) ?_
        refine tU 25 (some 65) ?_
        refine tU 26 (some 66) ?_
        refine tU 27 (some 67) ?_
        refine tU 28 (some 68) ?_
        refine tL 29 (some 69) ?_
        refine tL 30 (some 70) ?_
        refine tU 31 (some 71) ?_
        refine tU 32 (some 72) ?_
        refine tU 33 (some 73) ?_
        refine tU 34 (some 74) ?_
        refine tU 35 (some 75) ?_
        refine tU 36 (some 76) ?_
        refine tU 37 (some 77) ?_
        refine tL 38 (some 78) ?_
        refine tL 39 (some 79) ?_
        refine tU 40 (some 80) ?_
        refine tU 41 (some 81) ?_
        refine tU 42 (some 82) ?_
        refine tU 43 (some 83) ?_
        refine tU 44 (some 84) ?_
        refine tU 45 (some 85) ?_
        refine tU 46 (some 86) ?_
        refine tL 47 (some 87) ?_
        refine wpAnyH_done (by kernel_rfl) ?_ _
        clear hHeld
        go_wp2_with fail
        go_ret
        exact ⟨BoolIs.no (fun h => HNF.out (h.fine k (by have := HNL.out; omega))), HX1.out.bel.drew⟩
      obtain ⟨hv1, hv2⟩ := hc1
      cases hc2 : (x.lo == x.hi)
      rotate_left
      · have HNF := Go.Lib.hid (show ¬ nFine vars ns k from fun h => (HFD.out.1 h).2.1 (by simpa using hc2))
        refine wp_region_held_drew (S := (fun w' => w'.cell? ⟨wo.heap.size, 0, none⟩ = some (.int .i64 x.v) ∧ w'.cell? ⟨wo.heap.size, 1, none⟩ = some (.int .i64 x.lo) ∧ w'.cell? ⟨wo.heap.size, 2, none⟩ = some (.int .i64 x.hi) ∧ w'.cell? ⟨w.heap.size, 0, none⟩ = some (.int .i64 vars) ∧ w'.cell? ⟨w.heap.size, 1, none⟩ = some (.slice (some ⟨b, off, none⟩) len cap) ∧ w'.cell? ⟨w.heap.size, 2, none⟩ = some (.int .i64 root))) (by kernel_rfl) ?_ (fun hHeld => ?_)
        · first | exact ⟨n0, n1, n2, x0, x1, x2⟩ | exact ⟨keepc HQ6.out hl1 n0, keepc HQ6.out hl1 n1, keepc HQ6.out hl1 n2, keepc HQ6.out hl0 x0, keepc HQ6.out hl0 x1, keepc HQ6.out hl0 x2⟩ | exact ⟨keepc HQ5.out hl1 n0, keepc HQ5.out hl1 n1, keepc HQ5.out hl1 n2, keepc HQ5.out hl0 x0, keepc HQ5.out hl0 x1, keepc HQ5.out hl0 x2⟩
        refine tL 0 (some 40) ?_
        refine tL 1 (some 41) ?_
        refine tL 2 (some 42) ?_
        refine tL 3 (some 43) ?_
        refine tL 4 (some 44) ?_
        refine wpAnyH_ready (rs := [5]) (by kernel_rfl) (by simp) ?_
        refine AllReadyH.cons (o := _) rfl (fun K hK => ?_) AllReadyH.nil
        go_simp
        first | (with_reducible refine (b_l1In_t _ _ _ hv1 hv2 _).mono ?_; rintro e w' ⟨rfl, rfl⟩) | (with_reducible refine (b_l1In_t _ _ _ ha1 ha2 _).mono ?_; rintro e w' ⟨rfl, rfl⟩) | (with_reducible refine (b_l1In_t _ _ _ hb1 hb2 _).mono ?_; rintro e w' ⟨rfl, rfl⟩) | (with_reducible refine (b_l1In_f _ _ _ hf _).mono ?_; rintro e w' ⟨rfl, rfl⟩)
        (try go_wp2_with fail)
        (try clear hHeld)
        refine hK.out _ _ ?_ (fun hHeld => ?_)
        · first | exact ⟨n0, n1, n2, x0, x1, x2⟩ | exact ⟨keepc HQ6.out hl1 n0, keepc HQ6.out hl1 n1, keepc HQ6.out hl1 n2, keepc HQ6.out hl0 x0, keepc HQ6.out hl0 x1, keepc HQ6.out hl0 x2⟩ | exact ⟨keepc HQ5.out hl1 n0, keepc HQ5.out hl1 n1, keepc HQ5.out hl1 n2, keepc HQ5.out hl0 x0, keepc HQ5.out hl0 x1, keepc HQ5.out hl0 x2⟩
        clear hK K
        (try simp only [Act.put, List.setIfInBounds_toArray, List.set_cons_zero, List.set_cons_succ])
        refine tL 6 (some 46) ?_
        refine tL 7 (some 47) ?_
        refine tL 8 (some 48) ?_
        refine tL 9 (some 49) ?_
        refine tL 10 (some 50) ?_
        refine tL 11 (some 51) ?_
        refine tL 12 (some 52) ?_
        refine tL 13 (some 53) ?_
        refine tL 14 (some 54) ?_
        refine tU 15 (some 55) ?_
        refine tU 16 (some 56) ?_
        refine tU 17 (some 57) ?_
        refine tU 18 (some 58) ?_
        refine tU 19 (some 59) ?_
        refine tU 20 (some 60) ?_
        refine tL 21 (some 61) ?_
        refine tL 22 (some 62) ?_
        refine tU 23 (some 63) ?_
        refine tU 24 (some 64) ?_
        refine tU 25 (some 65) ?_
        refine tU 26 (some 66) ?_
        refine tU 27 (some 67) ?_
        refine tU 28 (some 68) ?_
        refine tL 29 (some 69) ?_
        refine tL 30 (some 70) ?_
        refine tU 31 (some 71) ?_
        refine tU 32 (some 72) ?_
        refine tU 33 (some 73) ?_
        refine tU 34 (some 74) ?_
        refine tU 35 (some 75) ?_
        refine tU 36 (some 76) ?_
        refine tU 37 (some 77) ?_
        refine tL 38 (some 78) ?_
        refine tL 39 (some 79) ?_
        refine tU 40 (some 80) ?_
        refine tU 41 (some 81) ?_
        refine tU 42 (some 82) ?_
        refine tU 43 (some 83) ?_
        refine tU 44 (some 84) ?_
        refine tU 45 (some 85) ?_
        refine tU 46 (some 86) ?_
        refine tL 47 (some 87) ?_
        refine wpAnyH_done (by kernel_rfl) ?_ _
        clear hHeld
        go_wp2_with fail
        go_ret
        exact ⟨BoolIs.no (fun h => HNF.out (h.fine k (by have := HNL.out; omega))), HX1.out.bel.drew⟩
      by_cases hc3 : 0 ≤ x.lo ∧ x.lo ≤ (k : Int) + 1
      rotate_left
      · have hf : x.lo < 0 ∨ (k : Int) + 1 < x.lo := by omega
        have HNF := Go.Lib.hid (show ¬ nFine vars ns k from fun h => hc3 (HFD.out.1 h).2.2.1)
        clear hc3
        refine wp_region_held_drew (S := (fun w' => w'.cell? ⟨wo.heap.size, 0, none⟩ = some (.int .i64 x.v) ∧ w'.cell? ⟨wo.heap.size, 1, none⟩ = some (.int .i64 x.lo) ∧ w'.cell? ⟨wo.heap.size, 2, none⟩ = some (.int .i64 x.hi) ∧ w'.cell? ⟨w.heap.size, 0, none⟩ = some (.int .i64 vars) ∧ w'.cell? ⟨w.heap.size, 1, none⟩ = some (.slice (some ⟨b, off, none⟩) len cap) ∧ w'.cell? ⟨w.heap.size, 2, none⟩ = some (.int .i64 root))) (by kernel_rfl) ?_ (fun hHeld => ?_)
        · first | exact ⟨n0, n1, n2, x0, x1, x2⟩ | exact ⟨keepc HQ6.out hl1 n0, keepc HQ6.out hl1 n1, keepc HQ6.out hl1 n2, keepc HQ6.out hl0 x0, keepc HQ6.out hl0 x1, keepc HQ6.out hl0 x2⟩ | exact ⟨keepc HQ5.out hl1 n0, keepc HQ5.out hl1 n1, keepc HQ5.out hl1 n2, keepc HQ5.out hl0 x0, keepc HQ5.out hl0 x1, keepc HQ5.out hl0 x2⟩
        refine tL 0 (some 40) ?_
        refine tL 1 (some 41) ?_
        refine tL 2 (some 42) ?_
        refine tL 3 (some 43) ?_
        refine tL 4 (some 44) ?_
        refine wpAnyH_ready (rs := [5]) (by kernel_rfl) (by simp) ?_
        refine AllReadyH.cons (o := _) rfl (fun K hK => ?_) AllReadyH.nil
        go_simp
        first | (with_reducible refine (b_l1In_t _ _ _ hv1 hv2 _).mono ?_; rintro e w' ⟨rfl, rfl⟩) | (with_reducible refine (b_l1In_t _ _ _ ha1 ha2 _).mono ?_; rintro e w' ⟨rfl, rfl⟩) | (with_reducible refine (b_l1In_t _ _ _ hb1 hb2 _).mono ?_; rintro e w' ⟨rfl, rfl⟩) | (with_reducible refine (b_l1In_f _ _ _ hf _).mono ?_; rintro e w' ⟨rfl, rfl⟩)
        (try go_wp2_with fail)
        (try clear hHeld)
        refine hK.out _ _ ?_ (fun hHeld => ?_)
        · first | exact ⟨n0, n1, n2, x0, x1, x2⟩ | exact ⟨keepc HQ6.out hl1 n0, keepc HQ6.out hl1 n1, keepc HQ6.out hl1 n2, keepc HQ6.out hl0 x0, keepc HQ6.out hl0 x1, keepc HQ6.out hl0 x2⟩ | exact ⟨keepc HQ5.out hl1 n0, keepc HQ5.out hl1 n1, keepc HQ5.out hl1 n2, keepc HQ5.out hl0 x0, keepc HQ5.out hl0 x1, keepc HQ5.out hl0 x2⟩
        clear hK K
        (try simp only [Act.put, List.setIfInBounds_toArray, List.set_cons_zero, List.set_cons_succ])
        refine tL 6 (some 46) ?_
        refine tL 7 (some 47) ?_
        refine tL 8 (some 48) ?_
        refine tL 9 (some 49) ?_
        refine tL 10 (some 50) ?_
        refine tL 11 (some 51) ?_
        refine tL 12 (some 52) ?_
        refine tL 13 (some 53) ?_
        refine tL 14 (some 54) ?_
        refine tL 15 (some 55) ?_
        refine tL 16 (some 56) ?_
        refine tL 17 (some 57) ?_
        refine tL 18 (some 58) ?_
        refine wpAnyH_ready (rs := [19]) (by kernel_rfl) (by simp) ?_
        refine AllReadyH.cons (o := _) rfl (fun K hK => ?_) AllReadyH.nil
        go_simp
        first | (with_reducible refine (b_l1In_t _ _ _ hv1 hv2 _).mono ?_; rintro e w' ⟨rfl, rfl⟩) | (with_reducible refine (b_l1In_t _ _ _ ha1 ha2 _).mono ?_; rintro e w' ⟨rfl, rfl⟩) | (with_reducible refine (b_l1In_t _ _ _ hb1 hb2 _).mono ?_; rintro e w' ⟨rfl, rfl⟩) | (with_reducible refine (b_l1In_f _ _ _ hf _).mono ?_; rintro e w' ⟨rfl, rfl⟩)
        (try go_wp2_with fail)
        (try clear hHeld)
        refine hK.out _ _ ?_ (fun hHeld => ?_)
        · first | exact ⟨n0, n1, n2, x0, x1, x2⟩ | exact ⟨keepc HQ6.out hl1 n0, keepc HQ6.out hl1 n1, keepc HQ6.out hl1 n2, keepc HQ6.out hl0 x0, keepc HQ6.out hl0 x1, keepc HQ6.out hl0 x2⟩ | exact ⟨keepc HQ5.out hl1 n0, keepc HQ5.out hl1 n1, keepc HQ5.out hl1 n2, keepc HQ5.out hl0 x0, keepc HQ5.out hl0 x1, keepc HQ5.out hl0 x2⟩
        clear hK K
        (try simp only [Act.put, List.setIfInBounds_toArray, List.set_cons_zero, List.set_cons_succ])
        refine tL 20 (some 60) ?_
        refine tL 21 (some 61) ?_
        refine tL 22 (some 62) ?_
        refine tU 23 (some 63) ?_
        refine tU 24 (some 64) ?_
        refine tU 25 (some 65) ?_
        refine tU 26 (some 66) ?_
        refine tU 27 (some 67) ?_
        refine tU 28 (some 68) ?_
        refine tL 29 (some 69) ?_
        refine tL 30 (some 70) ?_
        refine tU 31 (some 71) ?_
        refine tU 32 (some 72) ?_
        refine tU 33 (some 73) ?_
        refine tU 34 (some 74) ?_
        refine tU 35 (some 75) ?_
        refine tU 36 (some 76) ?_
        refine tU 37 (some 77) ?_
        refine tL 38 (some 78) ?_
        refine tL 39 (some 79) ?_
        refine tU 40 (some 80) ?_
        refine tU 41 (some 81) ?_
        refine tU 42 (some 82) ?_
        refine tU 43 (some 83) ?_
        refine tU 44 (some 84) ?_
        refine tU 45 (some 85) ?_
        refine tU 46 (some 86) ?_
        refine tL 47 (some 87) ?_
        refine wpAnyH_done (by kernel_rfl) ?_ _
        clear hHeld
        go_wp2_with fail
        go_ret
        exact ⟨BoolIs.no (fun h => HNF.out (h.fine k (by have := HNL.out; omega))), HX1.out.bel.drew⟩
      obtain ⟨ha1, ha2⟩ := hc3
      by_cases hc4 : 0 ≤ x.hi ∧ x.hi ≤ (k : Int) + 1
      rotate_left
      · have hf : x.hi < 0 ∨ (k : Int) + 1 < x.hi := by omega
        have HNF := Go.Lib.hid (show ¬ nFine vars ns k from fun h => hc4 (HFD.out.1 h).2.2.2.1)
        clear hc4
        refine wp_region_held_drew (S := (fun w' => w'.cell? ⟨wo.heap.size, 0, none⟩ = some (.int .i64 x.v) ∧ w'.cell? ⟨wo.heap.size, 1, none⟩ = some (.int .i64 x.lo) ∧ w'.cell? ⟨wo.heap.size, 2, none⟩ = some (.int .i64 x.hi) ∧ w'.cell? ⟨w.heap.size, 0, none⟩ = some (.int .i64 vars) ∧ w'.cell? ⟨w.heap.size, 1, none⟩ = some (.slice (some ⟨b, off, none⟩) len cap) ∧ w'.cell? ⟨w.heap.size, 2, none⟩ = some (.int .i64 root))) (by kernel_rfl) ?_ (fun hHeld => ?_)
        · first | exact ⟨n0, n1, n2, x0, x1, x2⟩ | exact ⟨keepc HQ6.out hl1 n0, keepc HQ6.out hl1 n1, keepc HQ6.out hl1 n2, keepc HQ6.out hl0 x0, keepc HQ6.out hl0 x1, keepc HQ6.out hl0 x2⟩ | exact ⟨keepc HQ5.out hl1 n0, keepc HQ5.out hl1 n1, keepc HQ5.out hl1 n2, keepc HQ5.out hl0 x0, keepc HQ5.out hl0 x1, keepc HQ5.out hl0 x2⟩
        refine tL 0 (some 40) ?_
        refine tL 1 (some 41) ?_
        refine tL 2 (some 42) ?_
        refine tL 3 (some 43) ?_
        refine tL 4 (some 44) ?_
        refine wpAnyH_ready (rs := [5]) (by kernel_rfl) (by simp) ?_
        refine AllReadyH.cons (o := _) rfl (fun K hK => ?_) AllReadyH.nil
        go_simp
        first | (with_reducible refine (b_l1In_t _ _ _ hv1 hv2 _).mono ?_; rintro e w' ⟨rfl, rfl⟩) | (with_reducible refine (b_l1In_t _ _ _ ha1 ha2 _).mono ?_; rintro e w' ⟨rfl, rfl⟩) | (with_reducible refine (b_l1In_t _ _ _ hb1 hb2 _).mono ?_; rintro e w' ⟨rfl, rfl⟩) | (with_reducible refine (b_l1In_f _ _ _ hf _).mono ?_; rintro e w' ⟨rfl, rfl⟩)
        (try go_wp2_with fail)
        (try clear hHeld)
        refine hK.out _ _ ?_ (fun hHeld => ?_)
        · first | exact ⟨n0, n1, n2, x0, x1, x2⟩ | exact ⟨keepc HQ6.out hl1 n0, keepc HQ6.out hl1 n1, keepc HQ6.out hl1 n2, keepc HQ6.out hl0 x0, keepc HQ6.out hl0 x1, keepc HQ6.out hl0 x2⟩ | exact ⟨keepc HQ5.out hl1 n0, keepc HQ5.out hl1 n1, keepc HQ5.out hl1 n2, keepc HQ5.out hl0 x0, keepc HQ5.out hl0 x1, keepc HQ5.out hl0 x2⟩
        clear hK K
        (try simp only [Act.put, List.setIfInBounds_toArray, List.set_cons_zero, List.set_cons_succ])
        refine tL 6 (some 46) ?_
        refine tL 7 (some 47) ?_
        refine tL 8 (some 48) ?_
        refine tL 9 (some 49) ?_
        refine tL 10 (some 50) ?_
        refine tL 11 (some 51) ?_
        refine tL 12 (some 52) ?_
        refine tL 13 (some 53) ?_
        refine tL 14 (some 54) ?_
        refine tL 15 (some 55) ?_
        refine tL 16 (some 56) ?_
        refine tL 17 (some 57) ?_
        refine tL 18 (some 58) ?_
        refine wpAnyH_ready (rs := [19]) (by kernel_rfl) (by simp) ?_
        refine AllReadyH.cons (o := _) rfl (fun K hK => ?_) AllReadyH.nil
        go_simp
        first | (with_reducible refine (b_l1In_t _ _ _ hv1 hv2 _).mono ?_; rintro e w' ⟨rfl, rfl⟩) | (with_reducible refine (b_l1In_t _ _ _ ha1 ha2 _).mono ?_; rintro e w' ⟨rfl, rfl⟩) | (with_reducible refine (b_l1In_t _ _ _ hb1 hb2 _).mono ?_; rintro e w' ⟨rfl, rfl⟩) | (with_reducible refine (b_l1In_f _ _ _ hf _).mono ?_; rintro e w' ⟨rfl, rfl⟩)
        (try go_wp2_with fail)
        (try clear hHeld)
        refine hK.out _ _ ?_ (fun hHeld => ?_)
        · first | exact ⟨n0, n1, n2, x0, x1, x2⟩ | exact ⟨keepc HQ6.out hl1 n0, keepc HQ6.out hl1 n1, keepc HQ6.out hl1 n2, keepc HQ6.out hl0 x0, keepc HQ6.out hl0 x1, keepc HQ6.out hl0 x2⟩ | exact ⟨keepc HQ5.out hl1 n0, keepc HQ5.out hl1 n1, keepc HQ5.out hl1 n2, keepc HQ5.out hl0 x0, keepc HQ5.out hl0 x1, keepc HQ5.out hl0 x2⟩
        clear hK K
        (try simp only [Act.put, List.setIfInBounds_toArray, List.set_cons_zero, List.set_cons_succ])
        refine tL 20 (some 60) ?_
        refine tL 21 (some 61) ?_
        refine tL 22 (some 62) ?_
        refine tL 23 (some 63) ?_
        refine tL 24 (some 64) ?_
        refine tL 25 (some 65) ?_
        refine tL 26 (some 66) ?_
        refine wpAnyH_ready (rs := [27]) (by kernel_rfl) (by simp) ?_
        refine AllReadyH.cons (o := _) rfl (fun K hK => ?_) AllReadyH.nil
        go_simp
        first | (with_reducible refine (b_l1In_t _ _ _ hv1 hv2 _).mono ?_; rintro e w' ⟨rfl, rfl⟩) | (with_reducible refine (b_l1In_t _ _ _ ha1 ha2 _).mono ?_; rintro e w' ⟨rfl, rfl⟩) | (with_reducible refine (b_l1In_t _ _ _ hb1 hb2 _).mono ?_; rintro e w' ⟨rfl, rfl⟩) | (with_reducible refine (b_l1In_f _ _ _ hf _).mono ?_; rintro e w' ⟨rfl, rfl⟩)
        (try go_wp2_with fail)
        (try clear hHeld)
        refine hK.out _ _ ?_ (fun hHeld => ?_)
        · first | exact ⟨n0, n1, n2, x0, x1, x2⟩ | exact ⟨keepc HQ6.out hl1 n0, keepc HQ6.out hl1 n1, keepc HQ6.out hl1 n2, keepc HQ6.out hl0 x0, keepc HQ6.out hl0 x1, keepc HQ6.out hl0 x2⟩ | exact ⟨keepc HQ5.out hl1 n0, keepc HQ5.out hl1 n1, keepc HQ5.out hl1 n2, keepc HQ5.out hl0 x0, keepc HQ5.out hl0 x1, keepc HQ5.out hl0 x2⟩
        clear hK K
        (try simp only [Act.put, List.setIfInBounds_toArray, List.set_cons_zero, List.set_cons_succ])
        refine tL 28 (some 68) ?_
        refine tL 29 (some 69) ?_
        refine tL 30 (some 70) ?_
        refine tU 31 (some 71) ?_
        refine tU 32 (some 72) ?_
        refine tU 33 (some 73) ?_
        refine tU 34 (some 74) ?_
        refine tU 35 (some 75) ?_
        refine tU 36 (some 76) ?_
        refine tU 37 (some 77) ?_
        refine tL 38 (some 78) ?_
        refine tL 39 (some 79) ?_
        refine tU 40 (some 80) ?_
        refine tU 41 (some 81) ?_
        refine tU 42 (some 82) ?_
        refine tU 43 (some 83) ?_
        refine tU 44 (some 84) ?_
        refine tU 45 (some 85) ?_
        refine tU 46 (some 86) ?_
        refine tL 47 (some 87) ?_
        refine wpAnyH_done (by kernel_rfl) ?_ _
        clear hHeld
        go_wp2_with fail
        go_ret
        exact ⟨BoolIs.no (fun h => HNF.out (h.fine k (by have := HNL.out; omega))), HX1.out.bel.drew⟩
      obtain ⟨hb1, hb2⟩ := hc4
      by_cases hc5 : vAt vars ns x.lo ≤ x.v
      · have HNF := Go.Lib.hid (show ¬ nFine vars ns k from fun h => by have := (HFD.out.1 h).2.2.2.2.1; omega)
        refine wp_region_held_drew (S := (fun w' => w'.cell? ⟨wo.heap.size, 0, none⟩ = some (.int .i64 x.v) ∧ w'.cell? ⟨wo.heap.size, 1, none⟩ = some (.int .i64 x.lo) ∧ w'.cell? ⟨wo.heap.size, 2, none⟩ = some (.int .i64 x.hi) ∧ w'.cell? ⟨w.heap.size, 0, none⟩ = some (.int .i64 vars) ∧ w'.cell? ⟨w.heap.size, 1, none⟩ = some (.slice (some ⟨b, off, none⟩) len cap) ∧ w'.cell? ⟨w.heap.size, 2, none⟩ = some (.int .i64 root))) (by kernel_rfl) ?_ (fun hHeld => ?_)
        · first | exact ⟨n0, n1, n2, x0, x1, x2⟩ | exact ⟨keepc HQ6.out hl1 n0, keepc HQ6.out hl1 n1, keepc HQ6.out hl1 n2, keepc HQ6.out hl0 x0, keepc HQ6.out hl0 x1, keepc HQ6.out hl0 x2⟩ | exact ⟨keepc HQ5.out hl1 n0, keepc HQ5.out hl1 n1, keepc HQ5.out hl1 n2, keepc HQ5.out hl0 x0, keepc HQ5.out hl0 x1, keepc HQ5.out hl0 x2⟩
        refine tL 0 (some 40) ?_
        refine tL 1 (some 41) ?_
        refine tL 2 (some 42) ?_
        refine tL 3 (some 43) ?_
        refine tL 4 (some 44) ?_
        refine wpAnyH_ready (rs := [5]) (by kernel_rfl) (by simp) ?_
        refine AllReadyH.cons (o := _) rfl (fun K hK => ?_) AllReadyH.nil
        go_simp
        first | (with_reducible refine (b_l1In_t _ _ _ hv1 hv2 _).mono ?_; rintro e w' ⟨rfl, rfl⟩) | (with_reducible refine (b_l1In_t _ _ _ ha1 ha2 _).mono ?_; rintro e w' ⟨rfl, rfl⟩) | (with_reducible refine (b_l1In_t _ _ _ hb1 hb2 _).mono ?_; rintro e w' ⟨rfl, rfl⟩) | (with_reducible refine (b_l1In_f _ _ _ hf _).mono ?_; rintro e w' ⟨rfl, rfl⟩)
        (try go_wp2_with fail)
        (try clear hHeld)
        refine hK.out _ _ ?_ (fun hHeld => ?_)
        · first | exact ⟨n0, n1, n2, x0, x1, x2⟩ | exact ⟨keepc HQ6.out hl1 n0, keepc HQ6.out hl1 n1, keepc HQ6.out hl1 n2, keepc HQ6.out hl0 x0, keepc HQ6.out hl0 x1, keepc HQ6.out hl0 x2⟩ | exact ⟨keepc HQ5.out hl1 n0, keepc HQ5.out hl1 n1, keepc HQ5.out hl1 n2, keepc HQ5.out hl0 x0, keepc HQ5.out hl0 x1, keepc HQ5.out hl0 x2⟩
        clear hK K
        (try simp only [Act.put, List.setIfInBounds_toArray, List.set_cons_zero, List.set_cons_succ])
        refine tL 6 (some 46) ?_
        refine tL 7 (some 47) ?_
        refine tL 8 (some 48) ?_
        refine tL 9 (some 49) ?_
        refine tL 10 (some 50) ?_
        refine tL 11 (some 51) ?_
        refine tL 12 (some 52) ?_
        refine tL 13 (some 53) ?_
        refine tL 14 (some 54) ?_
        refine tL 15 (some 55) ?_
        refine tL 16 (some 56) ?_
        refine tL 17 (some 57) ?_
        refine tL 18 (some 58) ?_
        refine wpAnyH_ready (rs := [19]) (by kernel_rfl) (by simp) ?_
        refine AllReadyH.cons (o := _) rfl (fun K hK => ?_) AllReadyH.nil
        go_simp
        first | (with_reducible refine (b_l1In_t _ _ _ hv1 hv2 _).mono ?_; rintro e w' ⟨rfl, rfl⟩) | (with_reducible refine (b_l1In_t _ _ _ ha1 ha2 _).mono ?_; rintro e w' ⟨rfl, rfl⟩) | (with_reducible refine (b_l1In_t _ _ _ hb1 hb2 _).mono ?_; rintro e w' ⟨rfl, rfl⟩) | (with_reducible refine (b_l1In_f _ _ _ hf _).mono ?_; rintro e w' ⟨rfl, rfl⟩)
        (try go_wp2_with fail)
        (try clear hHeld)
        refine hK.out _ _ ?_ (fun hHeld => ?_)
        · first | exact ⟨n0, n1, n2, x0, x1, x2⟩ | exact ⟨keepc HQ6.out hl1 n0, keepc HQ6.out hl1 n1, keepc HQ6.out hl1 n2, keepc HQ6.out hl0 x0, keepc HQ6.out hl0 x1, keepc HQ6.out hl0 x2⟩ | exact ⟨keepc HQ5.out hl1 n0, keepc HQ5.out hl1 n1, keepc HQ5.out hl1 n2, keepc HQ5.out hl0 x0, keepc HQ5.out hl0 x1, keepc HQ5.out hl0 x2⟩
        clear hK K
        (try simp only [Act.put, List.setIfInBounds_toArray, List.set_cons_zero, List.set_cons_succ])
        refine tL 20 (some 60) ?_
        refine tL 21 (some 61) ?_
        refine tL 22 (some 62) ?_
        refine tL 23 (some 63) ?_
        refine tL 24 (some 64) ?_
        refine tL 25 (some 65) ?_
        refine tL 26 (some 66) ?_
        refine wpAnyH_ready (rs := [27]) (by kernel_rfl) (by simp) ?_
        refine AllReadyH.cons (o := _) rfl (fun K hK => ?_) AllReadyH.nil
        go_simp
        first | (with_reducible refine (b_l1In_t _ _ _ hv1 hv2 _).mono ?_; rintro e w' ⟨rfl, rfl⟩) | (with_reducible refine (b_l1In_t _ _ _ ha1 ha2 _).mono ?_; rintro e w' ⟨rfl, rfl⟩) | (with_reducible refine (b_l1In_t _ _ _ hb1 hb2 _).mono ?_; rintro e w' ⟨rfl, rfl⟩) | (with_reducible refine (b_l1In_f _ _ _ hf _).mono ?_; rintro e w' ⟨rfl, rfl⟩)
        (try go_wp2_with fail)
        (try clear hHeld)
        refine hK.out _ _ ?_ (fun hHeld => ?_)
        · first | exact ⟨n0, n1, n2, x0, x1, x2⟩ | exact ⟨keepc HQ6.out hl1 n0, keepc HQ6.out hl1 n1, keepc HQ6.out hl1 n2, keepc HQ6.out hl0 x0, keepc HQ6.out hl0 x1, keepc HQ6.out hl0 x2⟩ | exact ⟨keepc HQ5.out hl1 n0, keepc HQ5.out hl1 n1, keepc HQ5.out hl1 n2, keepc HQ5.out hl0 x0, keepc HQ5.out hl0 x1, keepc HQ5.out hl0 x2⟩
        clear hK K
        (try simp only [Act.put, List.setIfInBounds_toArray, List.set_cons_zero, List.set_cons_succ])
        refine tL 28 (some 68) ?_
        refine tL 29 (some 69) ?_
        refine tL 30 (some 70) ?_
        refine tL 31 (some 71) ?_
        refine tL 32 (some 72) ?_
        refine tL 33 (some 73) ?_
        refine tL 35 (some 75) ?_
        refine tL 36 (some 76) ?_
        refine wpAnyH_ready (rs := [34]) (by kernel_rfl) (by simp) ?_
        refine AllReadyH.cons (o := _) rfl (fun K hK => ?_) AllReadyH.nil
        go_simp
        first | ((with_reducible refine (c_l7VarOf (B := B) vars root x.lo w1.drew hB1d HN1d.out ha1 (by omega)).mono ?_); rintro e w5 ⟨rfl, hq⟩; have HQ5 := Go.Lib.hid (show Below w1.heap.size w1 w5 from ⟨hq.os, hq.tape, hq.output, hq.size, hq.block⟩); clear hq) | ((with_reducible refine (c_l7VarOf (B := B) vars root x.hi w5 (Nat.le_trans hB1 HQ5.out.size) (HN1.out.below (HQ5.out.mono hB1)) hb1 (by omega)).mono ?_); rintro e w6 ⟨rfl, hq⟩; have HQ6 := Go.Lib.hid (HQ5.out.trans (hq.mono HQ5.out.size)); clear hq)
        (try go_wp2_with fail)
        (try clear hHeld)
        refine hK.out _ _ ?_ (fun hHeld => ?_)
        · first | exact ⟨n0, n1, n2, x0, x1, x2⟩ | exact ⟨keepc HQ6.out hl1 n0, keepc HQ6.out hl1 n1, keepc HQ6.out hl1 n2, keepc HQ6.out hl0 x0, keepc HQ6.out hl0 x1, keepc HQ6.out hl0 x2⟩ | exact ⟨keepc HQ5.out hl1 n0, keepc HQ5.out hl1 n1, keepc HQ5.out hl1 n2, keepc HQ5.out hl0 x0, keepc HQ5.out hl0 x1, keepc HQ5.out hl0 x2⟩
        clear hK K
        (try simp only [Act.put, List.setIfInBounds_toArray, List.set_cons_zero, List.set_cons_succ])
        refine tL 37 (some 77) ?_
        refine tL 38 (some 78) ?_
        refine tL 39 (some 79) ?_
        refine tU 40 (some 80) ?_
        refine tU 41 (some 81) ?_
        refine tU 42 (some 82) ?_
        refine tU 43 (some 83) ?_
        refine tU 44 (some 84) ?_
        refine tU 45 (some 85) ?_
        refine tU 46 (some 86) ?_
        refine tL 47 (some 87) ?_
        refine wpAnyH_done (by kernel_rfl) ?_ _
        clear hHeld
        go_wp2_with fail
        go_ret
        exact ⟨BoolIs.no (fun h => HNF.out (h.fine k (by have := HNL.out; omega))), HX1.out.bel.trans (HQ5.out.mono HX1.out.bel.size)⟩
      have hc5b : decide (vAt vars ns x.lo ≤ x.v) = false := decide_eq_false hc5
      by_cases hc6 : vAt vars ns x.hi ≤ x.v
      · have HNF := Go.Lib.hid (show ¬ nFine vars ns k from fun h => by have := (HFD.out.1 h).2.2.2.2.2; omega)
        refine wp_region_held_drew (S := (fun w' => w'.cell? ⟨wo.heap.size, 0, none⟩ = some (.int .i64 x.v) ∧ w'.cell? ⟨wo.heap.size, 1, none⟩ = some (.int .i64 x.lo) ∧ w'.cell? ⟨wo.heap.size, 2, none⟩ = some (.int .i64 x.hi) ∧ w'.cell? ⟨w.heap.size, 0, none⟩ = some (.int .i64 vars) ∧ w'.cell? ⟨w.heap.size, 1, none⟩ = some (.slice (some ⟨b, off, none⟩) len cap) ∧ w'.cell? ⟨w.heap.size, 2, none⟩ = some (.int .i64 root))) (by kernel_rfl) ?_ (fun hHeld => ?_)
        · first | exact ⟨n0, n1, n2, x0, x1, x2⟩ | exact ⟨keepc HQ6.out hl1 n0, keepc HQ6.out hl1 n1, keepc HQ6.out hl1 n2, keepc HQ6.out hl0 x0, keepc HQ6.out hl0 x1, keepc HQ6.out hl0 x2⟩ | exact ⟨keepc HQ5.out hl1 n0, keepc HQ5.out hl1 n1, keepc HQ5.out hl1 n2, keepc HQ5.out hl0 x0, keepc HQ5.out hl0 x1, keepc HQ5.out hl0 x2⟩
        refine tL 0 (some 40) ?_
        refine tL 1 (some 41) ?_
        refine tL 2 (some 42) ?_
        refine tL 3 (some 43) ?_
        refine tL 4 (some 44) ?_
        refine wpAnyH_ready (rs := [5]) (by kernel_rfl) (by simp) ?_
        refine AllReadyH.cons (o := _) rfl (fun K hK => ?_) AllReadyH.nil
        go_simp
        first | (with_reducible refine (b_l1In_t _ _ _ hv1 hv2 _).mono ?_; rintro e w' ⟨rfl, rfl⟩) | (with_reducible refine (b_l1In_t _ _ _ ha1 ha2 _).mono ?_; rintro e w' ⟨rfl, rfl⟩) | (with_reducible refine (b_l1In_t _ _ _ hb1 hb2 _).mono ?_; rintro e w' ⟨rfl, rfl⟩) | (with_reducible refine (b_l1In_f _ _ _ hf _).mono ?_; rintro e w' ⟨rfl, rfl⟩)
        (try go_wp2_with fail)
        (try clear hHeld)
        refine hK.out _ _ ?_ (fun hHeld => ?_)
        · first | exact ⟨n0, n1, n2, x0, x1, x2⟩ | exact ⟨keepc HQ6.out hl1 n0, keepc HQ6.out hl1 n1, keepc HQ6.out hl1 n2, keepc HQ6.out hl0 x0, keepc HQ6.out hl0 x1, keepc HQ6.out hl0 x2⟩ | exact ⟨keepc HQ5.out hl1 n0, keepc HQ5.out hl1 n1, keepc HQ5.out hl1 n2, keepc HQ5.out hl0 x0, keepc HQ5.out hl0 x1, keepc HQ5.out hl0 x2⟩
        clear hK K
        (try simp only [Act.put, List.setIfInBounds_toArray, List.set_cons_zero, List.set_cons_succ])
        refine tL 6 (some 46) ?_
        refine tL 7 (some 47) ?_
        refine tL 8 (some 48) ?_
        refine tL 9 (some 49) ?_
        refine tL 10 (some 50) ?_
        refine tL 11 (some 51) ?_
        refine tL 12 (some 52) ?_
        refine tL 13 (some 53) ?_
        refine tL 14 (some 54) ?_
        refine tL 15 (some 55) ?_
        refine tL 16 (some 56) ?_
        refine tL 17 (some 57) ?_
        refine tL 18 (some 58) ?_
        refine wpAnyH_ready (rs := [19]) (by kernel_rfl) (by simp) ?_
        refine AllReadyH.cons (o := _) rfl (fun K hK => ?_) AllReadyH.nil
        go_simp
        first | (with_reducible refine (b_l1In_t _ _ _ hv1 hv2 _).mono ?_; rintro e w' ⟨rfl, rfl⟩) | (with_reducible refine (b_l1In_t _ _ _ ha1 ha2 _).mono ?_; rintro e w' ⟨rfl, rfl⟩) | (with_reducible refine (b_l1In_t _ _ _ hb1 hb2 _).mono ?_; rintro e w' ⟨rfl, rfl⟩) | (with_reducible refine (b_l1In_f _ _ _ hf _).mono ?_; rintro e w' ⟨rfl, rfl⟩)
        (try go_wp2_with fail)
        (try clear hHeld)
        refine hK.out _ _ ?_ (fun hHeld => ?_)
        · first | exact ⟨n0, n1, n2, x0, x1, x2⟩ | exact ⟨keepc HQ6.out hl1 n0, keepc HQ6.out hl1 n1, keepc HQ6.out hl1 n2, keepc HQ6.out hl0 x0, keepc HQ6.out hl0 x1, keepc HQ6.out hl0 x2⟩ | exact ⟨keepc HQ5.out hl1 n0, keepc HQ5.out hl1 n1, keepc HQ5.out hl1 n2, keepc HQ5.out hl0 x0, keepc HQ5.out hl0 x1, keepc HQ5.out hl0 x2⟩
        clear hK K
        (try simp only [Act.put, List.setIfInBounds_toArray, List.set_cons_zero, List.set_cons_succ])
        refine tL 20 (some 60) ?_
        refine tL 21 (some 61) ?_
        refine tL 22 (some 62) ?_
        refine tL 23 (some 63) ?_
        refine tL 24 (some 64) ?_
        refine tL 25 (some 65) ?_
        refine tL 26 (some 66) ?_
        refine wpAnyH_ready (rs := [27]) (by kernel_rfl) (by simp) ?_
        refine AllReadyH.cons (o := _) rfl (fun K hK => ?_) AllReadyH.nil
        go_simp
        first | (with_reducible refine (b_l1In_t _ _ _ hv1 hv2 _).mono ?_; rintro e w' ⟨rfl, rfl⟩) | (with_reducible refine (b_l1In_t _ _ _ ha1 ha2 _).mono ?_; rintro e w' ⟨rfl, rfl⟩) | (with_reducible refine (b_l1In_t _ _ _ hb1 hb2 _).mono ?_; rintro e w' ⟨rfl, rfl⟩) | (with_reducible refine (b_l1In_f _ _ _ hf _).mono ?_; rintro e w' ⟨rfl, rfl⟩)
        (try go_wp2_with fail)
        (try clear hHeld)
        refine hK.out _ _ ?_ (fun hHeld => ?_)
        · first | exact ⟨n0, n1, n2, x0, x1, x2⟩ | exact ⟨keepc HQ6.out hl1 n0, keepc HQ6.out hl1 n1, keepc HQ6.out hl1 n2, keepc HQ6.out hl0 x0, keepc HQ6.out hl0 x1, keepc HQ6.out hl0 x2⟩ | exact ⟨keepc HQ5.out hl1 n0, keepc HQ5.out hl1 n1, keepc HQ5.out hl1 n2, keepc HQ5.out hl0 x0, keepc HQ5.out hl0 x1, keepc HQ5.out hl0 x2⟩
        clear hK K
        (try simp only [Act.put, List.setIfInBounds_toArray, List.set_cons_zero, List.set_cons_succ])
        refine tL 28 (some 68) ?_
        refine tL 29 (some 69) ?_
        refine tL 30 (some 70) ?_
        refine tL 31 (some 71) ?_
        refine tL 32 (some 72) ?_
        refine tL 33 (some 73) ?_
        refine tL 35 (some 75) ?_
        refine tL 36 (some 76) ?_
        refine wpAnyH_ready (rs := [34]) (by kernel_rfl) (by simp) ?_
        refine AllReadyH.cons (o := _) rfl (fun K hK => ?_) AllReadyH.nil
        go_simp
        first | ((with_reducible refine (c_l7VarOf (B := B) vars root x.lo w1.drew hB1d HN1d.out ha1 (by omega)).mono ?_); rintro e w5 ⟨rfl, hq⟩; have HQ5 := Go.Lib.hid (show Below w1.heap.size w1 w5 from ⟨hq.os, hq.tape, hq.output, hq.size, hq.block⟩); clear hq) | ((with_reducible refine (c_l7VarOf (B := B) vars root x.hi w5 (Nat.le_trans hB1 HQ5.out.size) (HN1.out.below (HQ5.out.mono hB1)) hb1 (by omega)).mono ?_); rintro e w6 ⟨rfl, hq⟩; have HQ6 := Go.Lib.hid (HQ5.out.trans (hq.mono HQ5.out.size)); clear hq)
        (try go_wp2_with fail)
        (try clear hHeld)
        refine hK.out _ _ ?_ (fun hHeld => ?_)
        · first | exact ⟨n0, n1, n2, x0, x1, x2⟩ | exact ⟨keepc HQ6.out hl1 n0, keepc HQ6.out hl1 n1, keepc HQ6.out hl1 n2, keepc HQ6.out hl0 x0, keepc HQ6.out hl0 x1, keepc HQ6.out hl0 x2⟩ | exact ⟨keepc HQ5.out hl1 n0, keepc HQ5.out hl1 n1, keepc HQ5.out hl1 n2, keepc HQ5.out hl0 x0, keepc HQ5.out hl0 x1, keepc HQ5.out hl0 x2⟩
        clear hK K
        (try simp only [Act.put, List.setIfInBounds_toArray, List.set_cons_zero, List.set_cons_succ])
        refine tL 37 (some 77) ?_
        refine tL 38 (some 78) ?_
        refine tL 39 (some 79) ?_
        refine tL 40 (some 80) ?_
        refine tL 41 (some 81) ?_
        refine tL 42 (some 82) ?_
        refine tL 44 (some 84) ?_
        refine tL 45 (some 85) ?_
        refine wpAnyH_ready (rs := [43]) (by kernel_rfl) (by simp) ?_
        refine AllReadyH.cons (o := _) rfl (fun K hK => ?_) AllReadyH.nil
        go_simp
        first | ((with_reducible refine (c_l7VarOf (B := B) vars root x.lo w1.drew hB1d HN1d.out ha1 (by omega)).mono ?_); rintro e w5 ⟨rfl, hq⟩; have HQ5 := Go.Lib.hid (show Below w1.heap.size w1 w5 from ⟨hq.os, hq.tape, hq.output, hq.size, hq.block⟩); clear hq) | ((with_reducible refine (c_l7VarOf (B := B) vars root x.hi w5 (Nat.le_trans hB1 HQ5.out.size) (HN1.out.below (HQ5.out.mono hB1)) hb1 (by omega)).mono ?_); rintro e w6 ⟨rfl, hq⟩; have HQ6 := Go.Lib.hid (HQ5.out.trans (hq.mono HQ5.out.size)); clear hq)
        (try go_wp2_with fail)
        (try clear hHeld)
        refine hK.out _ _ ?_ (fun hHeld => ?_)
        · first | exact ⟨n0, n1, n2, x0, x1, x2⟩ | exact ⟨keepc HQ6.out hl1 n0, keepc HQ6.out hl1 n1, keepc HQ6.out hl1 n2, keepc HQ6.out hl0 x0, keepc HQ6.out hl0 x1, keepc HQ6.out hl0 x2⟩ | exact ⟨keepc HQ5.out hl1 n0, keepc HQ5.out hl1 n1, keepc HQ5.out hl1 n2, keepc HQ5.out hl0 x0, keepc HQ5.out hl0 x1, keepc HQ5.out hl0 x2⟩
        clear hK K
        (try simp only [Act.put, List.setIfInBounds_toArray, List.set_cons_zero, List.set_cons_succ])
        refine tL 46 (some 86) ?_
        refine tL 47 (some 87) ?_
        refine wpAnyH_done (by kernel_rfl) ?_ _
        clear hHeld
        go_wp2_with fail
        go_ret
        exact ⟨BoolIs.no (fun h => HNF.out (h.fine k (by have := HNL.out; omega))), HX1.out.bel.trans (HQ6.out.mono HX1.out.bel.size)⟩
      have hc6b : decide (vAt vars ns x.hi ≤ x.v) = false := decide_eq_false hc6
      have HFN := Go.Lib.hid (HFD.out.2 ⟨⟨hv1, by omega⟩, by simpa using hc2, ⟨ha1, ha2⟩, ⟨hb1, hb2⟩, by omega, by omega⟩)
      refine wp_region_held_drew (S := (fun w' => w'.cell? ⟨wo.heap.size, 0, none⟩ = some (.int .i64 x.v) ∧ w'.cell? ⟨wo.heap.size, 1, none⟩ = some (.int .i64 x.lo) ∧ w'.cell? ⟨wo.heap.size, 2, none⟩ = some (.int .i64 x.hi) ∧ w'.cell? ⟨w.heap.size, 0, none⟩ = some (.int .i64 vars) ∧ w'.cell? ⟨w.heap.size, 1, none⟩ = some (.slice (some ⟨b, off, none⟩) len cap) ∧ w'.cell? ⟨w.heap.size, 2, none⟩ = some (.int .i64 root))) (by kernel_rfl) ?_ (fun hHeld => ?_)
      · first | exact ⟨n0, n1, n2, x0, x1, x2⟩ | exact ⟨keepc HQ6.out hl1 n0, keepc HQ6.out hl1 n1, keepc HQ6.out hl1 n2, keepc HQ6.out hl0 x0, keepc HQ6.out hl0 x1, keepc HQ6.out hl0 x2⟩ | exact ⟨keepc HQ5.out hl1 n0, keepc HQ5.out hl1 n1, keepc HQ5.out hl1 n2, keepc HQ5.out hl0 x0, keepc HQ5.out hl0 x1, keepc HQ5.out hl0 x2⟩
      refine tL 0 (some 40) ?_
      refine tL 1 (some 41) ?_
      refine tL 2 (some 42) ?_
      refine tL 3 (some 43) ?_
      refine tL 4 (some 44) ?_
      refine wpAnyH_ready (rs := [5]) (by kernel_rfl) (by simp) ?_
      refine AllReadyH.cons (o := _) rfl (fun K hK => ?_) AllReadyH.nil
      go_simp
      first | (with_reducible refine (b_l1In_t _ _ _ hv1 hv2 _).mono ?_; rintro e w' ⟨rfl, rfl⟩) | (with_reducible refine (b_l1In_t _ _ _ ha1 ha2 _).mono ?_; rintro e w' ⟨rfl, rfl⟩) | (with_reducible refine (b_l1In_t _ _ _ hb1 hb2 _).mono ?_; rintro e w' ⟨rfl, rfl⟩) | (with_reducible refine (b_l1In_f _ _ _ hf _).mono ?_; rintro e w' ⟨rfl, rfl⟩)
      (try go_wp2_with fail)
      (try clear hHeld)
      refine hK.out _ _ ?_ (fun hHeld => ?_)
      · first | exact ⟨n0, n1, n2, x0, x1, x2⟩ | exact ⟨keepc HQ6.out hl1 n0, keepc HQ6.out hl1 n1, keepc HQ6.out hl1 n2, keepc HQ6.out hl0 x0, keepc HQ6.out hl0 x1, keepc HQ6.out hl0 x2⟩ | exact ⟨keepc HQ5.out hl1 n0, keepc HQ5.out hl1 n1, keepc HQ5.out hl1 n2, keepc HQ5.out hl0 x0, keepc HQ5.out hl0 x1, keepc HQ5.out hl0 x2⟩
      clear hK K
      (try simp only [Act.put, List.setIfInBounds_toArray, List.set_cons_zero, List.set_cons_succ])
      refine tL 6 (some 46) ?_
      refine tL 7 (some 47) ?_
      refine tL 8 (some 48) ?_
      refine tL 9 (some 49) ?_
      refine tL 10 (some 50) ?_
      refine tL 11 (some 51) ?_
      refine tL 12 (some 52) ?_
      refine tL 13 (some 53) ?_
      refine tL 14 (some 54) ?_
      refine tL 15 (some 55) ?_
      refine tL 16 (some 56) ?_
      refine tL 17 (some 57) ?_
      refine tL 18 (some 58) ?_
      refine wpAnyH_ready (rs := [19]) (by kernel_rfl) (by simp) ?_
      refine AllReadyH.cons (o := _) rfl (fun K hK => ?_) AllReadyH.nil
      go_simp
      first | (with_reducible refine (b_l1In_t _ _ _ hv1 hv2 _).mono ?_; rintro e w' ⟨rfl, rfl⟩) | (with_reducible refine (b_l1In_t _ _ _ ha1 ha2 _).mono ?_; rintro e w' ⟨rfl, rfl⟩) | (with_reducible refine (b_l1In_t _ _ _ hb1 hb2 _).mono ?_; rintro e w' ⟨rfl, rfl⟩) | (with_reducible refine (b_l1In_f _ _ _ hf _).mono ?_; rintro e w' ⟨rfl, rfl⟩)
      (try go_wp2_with fail)
      (try clear hHeld)
      refine hK.out _ _ ?_ (fun hHeld => ?_)
      · first | exact ⟨n0, n1, n2, x0, x1, x2⟩ | exact ⟨keepc HQ6.out hl1 n0, keepc HQ6.out hl1 n1, keepc HQ6.out hl1 n2, keepc HQ6.out hl0 x0, keepc HQ6.out hl0 x1, keepc HQ6.out hl0 x2⟩ | exact ⟨keepc HQ5.out hl1 n0, keepc HQ5.out hl1 n1, keepc HQ5.out hl1 n2, keepc HQ5.out hl0 x0, keepc HQ5.out hl0 x1, keepc HQ5.out hl0 x2⟩
      clear hK K
      (try simp only [Act.put, List.setIfInBounds_toArray, List.set_cons_zero, List.set_cons_succ])
      refine tL 20 (some 60) ?_
      refine tL 21 (some 61) ?_
      refine tL 22 (some 62) ?_
      refine tL 23 (some 63) ?_
      refine tL 24 (some 64) ?_
      refine tL 25 (some 65) ?_
      refine tL 26 (some 66) ?_
      refine wpAnyH_ready (rs := [27]) (by kernel_rfl) (by simp) ?_
      refine AllReadyH.cons (o := _) rfl (fun K hK => ?_) AllReadyH.nil
      go_simp
      first | (with_reducible refine (b_l1In_t _ _ _ hv1 hv2 _).mono ?_; rintro e w' ⟨rfl, rfl⟩) | (with_reducible refine (b_l1In_t _ _ _ ha1 ha2 _).mono ?_; rintro e w' ⟨rfl, rfl⟩) | (with_reducible refine (b_l1In_t _ _ _ hb1 hb2 _).mono ?_; rintro e w' ⟨rfl, rfl⟩) | (with_reducible refine (b_l1In_f _ _ _ hf _).mono ?_; rintro e w' ⟨rfl, rfl⟩)
      (try go_wp2_with fail)
      (try clear hHeld)
      refine hK.out _ _ ?_ (fun hHeld => ?_)
      · first | exact ⟨n0, n1, n2, x0, x1, x2⟩ | exact ⟨keepc HQ6.out hl1 n0, keepc HQ6.out hl1 n1, keepc HQ6.out hl1 n2, keepc HQ6.out hl0 x0, keepc HQ6.out hl0 x1, keepc HQ6.out hl0 x2⟩ | exact ⟨keepc HQ5.out hl1 n0, keepc HQ5.out hl1 n1, keepc HQ5.out hl1 n2, keepc HQ5.out hl0 x0, keepc HQ5.out hl0 x1, keepc HQ5.out hl0 x2⟩
      clear hK K
      (try simp only [Act.put, List.setIfInBounds_toArray, List.set_cons_zero, List.set_cons_succ])
      refine tL 28 (some 68) ?_
      refine tL 29 (some 69) ?_
      refine tL 30 (some 70) ?_
      refine tL 31 (some 71) ?_
      refine tL 32 (some 72) ?_
      refine tL 33 (some 73) ?_
      refine tL 35 (some 75) ?_
      refine tL 36 (some 76) ?_
      refine wpAnyH_ready (rs := [34]) (by kernel_rfl) (by simp) ?_
      refine AllReadyH.cons (o := _) rfl (fun K hK => ?_) AllReadyH.nil
      go_simp
      first | ((with_reducible refine (c_l7VarOf (B := B) vars root x.lo w1.drew hB1d HN1d.out ha1 (by omega)).mono ?_); rintro e w5 ⟨rfl, hq⟩; have HQ5 := Go.Lib.hid (show Below w1.heap.size w1 w5 from ⟨hq.os, hq.tape, hq.output, hq.size, hq.block⟩); clear hq) | ((with_reducible refine (c_l7VarOf (B := B) vars root x.hi w5 (Nat.le_trans hB1 HQ5.out.size) (HN1.out.below (HQ5.out.mono hB1)) hb1 (by omega)).mono ?_); rintro e w6 ⟨rfl, hq⟩; have HQ6 := Go.Lib.hid (HQ5.out.trans (hq.mono HQ5.out.size)); clear hq)
      (try go_wp2_with fail)
      (try clear hHeld)
      refine hK.out _ _ ?_ (fun hHeld => ?_)
      · first | exact ⟨n0, n1, n2, x0, x1, x2⟩ | exact ⟨keepc HQ6.out hl1 n0, keepc HQ6.out hl1 n1, keepc HQ6.out hl1 n2, keepc HQ6.out hl0 x0, keepc HQ6.out hl0 x1, keepc HQ6.out hl0 x2⟩ | exact ⟨keepc HQ5.out hl1 n0, keepc HQ5.out hl1 n1, keepc HQ5.out hl1 n2, keepc HQ5.out hl0 x0, keepc HQ5.out hl0 x1, keepc HQ5.out hl0 x2⟩
      clear hK K
      (try simp only [Act.put, List.setIfInBounds_toArray, List.set_cons_zero, List.set_cons_succ])
      refine tL 37 (some 77) ?_
      refine tL 38 (some 78) ?_
      refine tL 39 (some 79) ?_
      refine tL 40 (some 80) ?_
      refine tL 41 (some 81) ?_
      refine tL 42 (some 82) ?_
      refine tL 44 (some 84) ?_
      refine tL 45 (some 85) ?_
      refine wpAnyH_ready (rs := [43]) (by kernel_rfl) (by simp) ?_
      refine AllReadyH.cons (o := _) rfl (fun K hK => ?_) AllReadyH.nil
      go_simp
      first | ((with_reducible refine (c_l7VarOf (B := B) vars root x.lo w1.drew hB1d HN1d.out ha1 (by omega)).mono ?_); rintro e w5 ⟨rfl, hq⟩; have HQ5 := Go.Lib.hid (show Below w1.heap.size w1 w5 from ⟨hq.os, hq.tape, hq.output, hq.size, hq.block⟩); clear hq) | ((with_reducible refine (c_l7VarOf (B := B) vars root x.hi w5 (Nat.le_trans hB1 HQ5.out.size) (HN1.out.below (HQ5.out.mono hB1)) hb1 (by omega)).mono ?_); rintro e w6 ⟨rfl, hq⟩; have HQ6 := Go.Lib.hid (HQ5.out.trans (hq.mono HQ5.out.size)); clear hq)
      (try go_wp2_with fail)
      (try clear hHeld)
      refine hK.out _ _ ?_ (fun hHeld => ?_)
      · first | exact ⟨n0, n1, n2, x0, x1, x2⟩ | exact ⟨keepc HQ6.out hl1 n0, keepc HQ6.out hl1 n1, keepc HQ6.out hl1 n2, keepc HQ6.out hl0 x0, keepc HQ6.out hl0 x1, keepc HQ6.out hl0 x2⟩ | exact ⟨keepc HQ5.out hl1 n0, keepc HQ5.out hl1 n1, keepc HQ5.out hl1 n2, keepc HQ5.out hl0 x0, keepc HQ5.out hl0 x1, keepc HQ5.out hl0 x2⟩
      clear hK K
      (try simp only [Act.put, List.setIfInBounds_toArray, List.set_cons_zero, List.set_cons_succ])
      refine tL 46 (some 86) ?_
      refine tL 47 (some 87) ?_
      refine wpAnyH_done (by kernel_rfl) ?_ _
      clear hHeld
      have HX6 := Go.Lib.hid (HX1.out.below HQ6.out)
      have HK6 := Go.Lib.hid ((HQ6.out.block _ hl1).trans HK1.out)
      have hl6 := Nat.lt_of_lt_of_le hl1 HQ6.out.size
      clear n0 n1 n2 x0 x1 x2 hc2 hc5 hc6 hc5b hc6b hw1 hw2 hv1 hv2 ha1 ha2 hb1 hb2
      go_wp2_with fail
      go_loopw [5] (fun j wr => ∃ u : Nat, u ≤ k ∧ j = .int .i64 u ∧ (∀ z : Nat, z < u → ns.getD k default ≠ ns.getD z default) ∧ wr.heap[wo.heap.size]? = some (.cells #[.int .i64 x.v, .int .i64 x.lo, .int .i64 x.hi] 67 (0, 0)) ∧ BBox vars (some ⟨b, off, none⟩) len cap root w wr) (fun j _ => k - (intOf j).toNat)
      case atStart => exact ⟨0, by omega, rfl, fun z h => by omega, HK6.out, HX6.out⟩
      case round =>
        obtain ⟨u, hu, rfl, hnz, hkb, hbx⟩ := hrel
        have HNZ := Go.Lib.hid hnz
        have HKB := Go.Lib.hid hkb
        have HBX := Go.Lib.hid hbx
        have n0 := cell_of_block (i := 0) hkb (v := .int .i64 x.v) rfl
        have n1 := cell_of_block (i := 1) hkb (v := .int .i64 x.lo) rfl
        have n2 := cell_of_block (i := 2) hkb (v := .int .i64 x.hi) rfl
        obtain ⟨x0, x1, x2⟩ := hbx.cells
        clear hnz hkb hbx HK6 HX6
        by_cases huk : u < k
        · have hui : (u : Int) < k := by omega
          have hul : (u : Int) < len := by omega
          obtain ⟨y, b', off', hy, -, hbe, -, c0, c1, c2⟩ := bn_at (HN.out.below (HBX.out.bel.mono hBw)) (show u < len by omega)
          simp only [Option.some.injEq, Addr.mk.injEq, and_true] at hbe
          obtain ⟨rfl, rfl⟩ := hbe
          have HYD := Go.Lib.hid hy
          clear hy
          have HEQ := Go.Lib.hid (show ns.getD k default = ns.getD u default ↔ (y.v = x.v ∧ y.lo = x.lo ∧ y.hi = x.hi) by
            rw [← HXD.out, ← HYD.out]
            obtain ⟨a1, a2, a3⟩ := x
            obtain ⟨b1, b2, b3⟩ := y
            simp only [BN.mk.injEq]
            constructor
            · rintro ⟨rfl, rfl, rfl⟩; exact ⟨rfl, rfl, rfl⟩
            · rintro ⟨rfl, rfl, rfl⟩; exact ⟨rfl, rfl, rfl⟩)
          cases e1 : (y.v == x.v)
          rotate_left
          cases e2 : (y.lo == x.lo)
          rotate_left
          cases e3 : (y.hi == x.hi)
          rotate_left
          · have HT := Go.Lib.hid (HEQ.out.2 ⟨by simpa using e1, by simpa using e2, by simpa using e3⟩)
            go_upto_region 12 with fail
            go_quiet (fail)
            go_wp2_with fail
            go_ret
            exact ⟨BoolIs.no (fun h => h.once k u huk (by have := HNL.out; omega) HT.out), below_drewN HBX.out.bel _⟩
          all_goals
            have HT := Go.Lib.hid (show ns.getD k default ≠ ns.getD u default from fun h => by have := HEQ.out.1 h; simp_all)
            go_upto_region 12 with fail
            go_quiet (fail)
            go_wp2_with fail
            go_roundw
            case rel => exact ⟨u + 1, by omega, by go_num, fun z hz => by
              rcases Nat.lt_or_ge z u with h | h
              · exact HNZ.out z h
              · obtain rfl : z = u := by omega
                exact HT.out, HKB.out, ⟨HBX.out.blk, below_drewN HBX.out.bel _⟩⟩
            case measure => simp [intOf] <;> omega
        · have hui : ¬ (u : Int) < k := by omega
          obtain rfl : u = k := by omega
          clear n0 n1 n2 x0 x1 x2
          go_wp2_with fail
          go_roundw
          case rel => exact ⟨u + 1, by omega, by go_num, fun y hy => by
            rcases Nat.lt_or_ge y u with h | h
            · exact HNO.out y h
            · obtain rfl : y = u := by omega
              exact ⟨HFN.out, HNZ.out⟩, HBX.out⟩
          case measure => simp [intOf] <;> omega
    · have hki : ¬ (k : Int) < len := by omega
      obtain rfl : k = len := by omega
      have hfine : ∀ y : Nat, y < ns.length → nFine vars ns y := fun y hy => (HNO.out y (by have := HNL.out; omega)).1
      have HFI := Go.Lib.hid hfine
      have HA := Go.Lib.hid (Ahead.of hfine)
      clear hfine
      have hBo : B ≤ wo.heap.size := Nat.le_trans hBw HX.out.bel.size
      have HNo := Go.Lib.hid (HN.out.below (HX.out.bel.mono hBw))
      have HC3 := Go.Lib.hid (c_l7Order (B := B) (base := wo.heap.size) vars root hBo hl HNL.out HA.out (k + 1) root [] (.slice none 0 0) wo HNo.out (Nat.le_refl _) (World.ownsInts_nil _ _ _ _) hr0 (by omega) (by omega) ⟨List.nodup_nil, fun x hx => by simp at hx⟩)
      go_wp2_with fail
      refine HC3.out.mono ?_
      rintro e w2 ⟨v, rfl, ho, hg, -⟩
      obtain ⟨va, vc, rfl, -⟩ := own_form ho
      obtain ⟨zs, hzs⟩ : ∃ zs, ord ns (k + 1) root [] = zs := ⟨_, rfl⟩
      rw [hzs] at ho ⊢
      have HZS := Go.Lib.hid hzs
      have HZL := Go.Lib.hid (show DoneL k zs from by have := DoneL.ord HA.out (f := k + 1) (p := root) (D := []) (by omega) (by rw [HNL.out]; omega) ⟨List.nodup_nil, fun x hx => by simp at hx⟩; rw [HNL.out, hzs] at this; exact this)
      have hzk : zs.length ≤ k := HZL.out.len
      have HZ := Go.Lib.hid (own_ints ho rfl)
      have hbe : Below w.heap.size w w2 := HX.out.bel.trans ⟨hg.os, hg.tape, hg.output, hg.size, fun b hb => hg.block b (Nat.lt_of_lt_of_le hb HX.out.bel.size) (by intro e; cases e)⟩
      have hbk : w2.heap[w.heap.size]? = some (.cells #[.int .i64 vars, .slice a k cap, .int .i64 root] 25 (0, 0)) := (hg.block _ HX.out.lt (by intro e; cases e)).trans HX.out.blk
      have HX2 := Go.Lib.hid (show BBox vars a k cap root w w2 from ⟨hbk, hbe⟩)
      clear ho hzs hg hbe hbk x0 x1 x2 HC3
      obtain ⟨x0, x1, x2⟩ := HX2.out.cells
      have HP := Go.Lib.hid (show OkB vars ns root ↔ (isC zs ∧ zs.length = k) from ⟨fun h => by have h1 := h.order; rw [HNL.out, HZS.out] at h1; exact h1, fun h => ⟨of_decide_eq_true HV.out, by have := HNL.out; omega, by have := HNL.out; omega, HFI.out, fun x y hyx hx => (HNO.out x (by have := HNL.out; omega)).2 y hyx, by rw [HNL.out, HZS.out]; exact h⟩⟩)
      go_wp2_with fail
      go_loopw [7] (fun i wr => ∃ u : Nat, u ≤ zs.length ∧ i = .int .i64 u ∧ (∀ y : Nat, y < u → zs.getD y 0 = (y : Int) + 2) ∧ w2 = wr) (fun i _ => zs.length - (intOf i).toNat)
      case atStart => exact ⟨0, by omega, rfl, fun y h => by omega, by first | rfl | trivial⟩
      case round =>
        obtain ⟨u, hu, rfl, hcn, rfl⟩ := hrel
        have HCN := Go.Lib.hid hcn
        clear hcn
        by_cases hul : u < zs.length
        · have hui : (u : Int) < zs.length := by omega
          obtain ⟨z, b3, o3, hz, -, rfl, hbB3, z0⟩ := int_at HZ.out hul
          have HZZ := Go.Lib.hid hz
          clear hz
          by_cases hzu : z = (u : Int) + 2
          · subst hzu
            go_wp2_with fail
            go_roundw
            case rel => exact ⟨u + 1, by omega, by go_num, fun y hy => by
              rcases Nat.lt_or_ge y u with h | h
              · exact HCN.out y h
              · obtain rfl : y = u := by omega
                exact HZZ.out, by first | rfl | trivial⟩
            case measure => simp [intOf] <;> omega
          · have HNE := Go.Lib.hid hzu
            have hzb : (z == (u : Int) + 2) = false := by simpa using hzu
            go_wp2_with fail
            go_ret
            exact ⟨BoolIs.no (fun h => HNE.out (by have := (HP.out.1 h).1 u hul; rw [HZZ.out] at this; exact this)), HX2.out.bel⟩
        · have hui : ¬ (u : Int) < zs.length := by omega
          obtain rfl : u = zs.length := by omega
          by_cases hlk : zs.length = k
          · have HLK := Go.Lib.hid hlk
            have hlb : ((zs.length : Int) == (k : Int)) = true := by simp; omega
            clear hlk
            go_wp2_with fail
            go_ret
            exact ⟨BoolIs.yes (HP.out.2 ⟨fun i hi => HCN.out i hi, HLK.out⟩), HX2.out.bel⟩
          · have HLK := Go.Lib.hid hlk
            have hlb : ((zs.length : Int) == (k : Int)) = false := by simp; omega
            go_wp2_with fail
            go_ret
            exact ⟨BoolIs.no (fun h => HLK.out (HP.out.1 h).2), HX2.out.bel⟩
end Go.Proofs.YthdofdglbdfkkaaDoor
