/-
  Parts: EvP, EvQ, shortened.
-/
import Derived.Test.YtlcgimadbpagfaaGreatZEvL
namespace Go.Proofs.YtlcgimadbpagfaaGreat
open Go.Lib
open Go.ChangeShapes Go.WideShapes Go.ChangeAt Go.RowKit Go.Maps
set_option linter.unusedVariables false
set_option maxRecDepth 100000
def PartMem (B : Nat) (w : World) (bn on l0 bv ov vl : Nat) (p : Int) (P : PT) : Prop := ∃ q : Nat, p = q ∧ q < l0 ∧ q < vl ∧ bn < B ∧ bv < B ∧ w.cell? ⟨bn, on + q * 9 + 6, none⟩ = some (.int .i64 P.si) ∧ w.cell? ⟨bn, on + q * 9 + 7, none⟩ = some (.int .i64 P.sw) ∧ w.cell? ⟨bv, ov + q, none⟩ = some (.slice P.a P.len P.cap)
theorem PartMem.below {B : Nat} {w w' : World} {bn on l0 bv ov vl : Nat} {p : Int} {P : PT} (h : PartMem B w bn on l0 bv ov vl p P) (hb : Below B w w') : PartMem B w' bn on l0 bv ov vl p P := by
 obtain ⟨q, h1, h2, h3, h4, h5, h6, h7, h8⟩ := h
 exact ⟨q, h1, h2, h3, h4, h5, (hb.cell (p := ⟨bn, on + q * 9 + 6, none⟩) h4).trans h6, (hb.cell (p := ⟨bn, on + q * 9 + 7, none⟩) h4).trans h7, (hb.cell (p := ⟨bv, ov + q, none⟩) h5).trans h8⟩
def upto (P : Nat → PT) (j t : Nat) : PT := if t < j then P t else default
def p9 (P : Nat → PT) (j : Nat) : Array Value := parts9 (upto P j 0) (upto P j 1) (upto P j 2)
theorem p9_next (P : Nat → PT) {j : Nat} (hj : j < 3) : (((p9 P j).setIfInBounds (3 * j) (.int .i64 (P j).si)).setIfInBounds (3 * j + 1) (.int .i64 (P j).sw)).setIfInBounds (3 * j + 2) (.slice (P j).a (P j).len (P j).cap) = p9 P (j + 1) := by
 have hc : j = 0 ∨ j = 1 ∨ j = 2 := by omega
 rcases hc with rfl | rfl | rfl <;> rfl
def VpR (P : Nat → PT) (pn : Nat) (w w1 : World) (i : Value) (wr : World) : Prop := ∃ j : Nat, j ≤ pn ∧ i = .int .i64 j ∧ wr.heap[w.heap.size + 2]? = some (.cells (p9 P j) 124 (0, 0)) ∧ (∀ y, y < w1.heap.size → y ≠ w.heap.size + 2 → wr.heap[y]? = w1.heap[y]?) ∧ w1.heap.size ≤ wr.heap.size ∧ Below w.heap.size w wr
theorem vpr_next {P : Nat → PT} {pn j : Nat} {w w1 wr : World} (hj : j < pn) (hj3 : j < 3) (h1 : wr.heap[w.heap.size + 2]? = some (.cells (p9 P j) 124 (0, 0))) (h2 : ∀ y, y < w1.heap.size → y ≠ w.heap.size + 2 → wr.heap[y]? = w1.heap[y]?) (h3 : w1.heap.size ≤ wr.heap.size) (h4 : Below w.heap.size w wr) :
  VpR P pn w w1 (.int .i64 ((j : Int) + 1)) (((wr.drew.setCell ⟨w.heap.size + 2, 3 * j, none⟩ (.int .i64 (P j).si)).setCell ⟨w.heap.size + 2, 3 * j + 1, none⟩ (.int .i64 (P j).sw)).setCell ⟨w.heap.size + 2, 3 * j + 2, none⟩ (.slice (P j).a (P j).len (P j).cap)) := by
 refine ⟨j + 1, hj, by go_num, ?_, fun y hy hn => ?_, by simpa using h3, ?_⟩
 ·rw [← p9_next P hj3]
  exact heap_setCell_same _ _ _ _ _ _ (heap_setCell_same _ _ _ _ _ _ (heap_setCell_same _ _ _ _ _ _ h1))
 ·rw [heap_setCell_other _ _ _ _ hn, heap_setCell_other _ _ _ _ hn, heap_setCell_other _ _ _ _ hn]
  exact h2 y hy hn
 ·exact ((h4.drew.setCell (p := ⟨w.heap.size + 2, 3 * j, none⟩) (Nat.le_add_right _ 2) _).setCell (p := ⟨w.heap.size + 2, 3 * j + 1, none⟩) (Nat.le_add_right _ 2) _).setCell (p := ⟨w.heap.size + 2, 3 * j + 2, none⟩) (Nat.le_add_right _ 2) _
theorem p9_all (P : Nat → PT) (j : Nat) : (p9 P j).all (·.oneCell') = true := by simp [p9, parts9, Value.oneCell']
theorem p9_size (P : Nat → PT) (j : Nat) : (Tryz.prog.info? 124).map (·.size) = some (p9 P j).size := by
 have e : (Tryz.prog.info? 124).map (·.size) = some 9 := by kernel_rfl
 exact e
theorem p9_same (P : Nat → PT) (i j : Nat) : (p9 P i).size = (p9 P j).size := rfl
theorem keep3 {w : World} {g o r a b c : Nat} {v X Y Z : Value} (hne : g ≠ r) (h : w.cell? ⟨g, o, none⟩ = some v) : (((w.setCell ⟨r, a, none⟩ X).setCell ⟨r, b, none⟩ Y).setCell ⟨r, c, none⟩ Z).cell? ⟨g, o, none⟩ = some v :=
 (World.cell?_setCell_other _ _ _ _ (by simp <;> omega)).trans ((World.cell?_setCell_other _ _ _ _ (by simp <;> omega)).trans ((World.cell?_setCell_other _ _ _ _ (by simp <;> omega)).trans h))
set_option maxHeartbeats 16000000 in
theorem c_valueParts {B : Nat} (x : ND) (P : Nat → PT) {bn on l0 p0 bv ov vl vc : Nat} (w : World) (hBw : B ≤ w.heap.size) (hm : ∀ t : Nat, (t : Int) < pcI x.kind → PartMem B w bn on l0 bv ov vl (partAt x t) (P t)) (hl0 : l0 ≤ 60) (hvl : vl ≤ 60) :
  Calls Tryz.prog 92 #[.slice (some ⟨bn, on, none⟩) l0 p0, .slice (some ⟨bv, ov, none⟩) vl vc, .agg x.cells.toArray] w fun e w' => e = .returned (.agg (p9 P (pcI x.kind).toNat)) ∧ Below w.heap.size w w' := by
 have HM := hid hm
 clear hm
 simp only [ND.cells]
 go_enter Tryz.func92, Tryz.ntmps92
 go_upto_region 2 with fail
 refine code_gen (R := fun wb => wb.heap[w.heap.size]? = some (.cells #[.int .i64 x.kind, .int .i64 x.a, .int .i64 x.b, .int .i64 x.c, .int .i64 x.n, .int .i64 x.m, .int .i64 x.si, .int .i64 x.sw, .string x.name] 111 (0, 0)) ∧ wb.heap[w.heap.size + 1]? = some (.cells (p9 P 0) 124 (0, 0)) ∧ wb.heap[w.heap.size + 2]? = some (.cells (p9 P 0) 124 (0, 0)) ∧ Below w.heap.size w wb) ⟨(heap3 _ _ _ _).1, (heap3 _ _ _ _).2.1, (heap3 _ _ _ _).2.2, by go_grown⟩ ?_
 rintro w0 ⟨k0, k1, k2, hB0⟩
 have HB0 := hid hB0
 have HK1 := hid k1
 have HK2 := hid k2
 have hsz : w.heap.size + 2 < w0.heap.size := (Array.getElem?_eq_some_iff.1 k2).1
 have n0 := cell_of_block (i := 0) k0 (v := .int .i64 x.kind) rfl
 have n1 := cell_of_block (i := 1) k0 (v := .int .i64 x.a) rfl
 have n2 := cell_of_block (i := 2) k0 (v := .int .i64 x.b) rfl
 have n3 := cell_of_block (i := 3) k0 (v := .int .i64 x.c) rfl
 have n4 := cell_of_block (i := 4) k0 (v := .int .i64 x.n) rfl
 have n5 := cell_of_block (i := 5) k0 (v := .int .i64 x.m) rfl
 have n6 := cell_of_block (i := 6) k0 (v := .int .i64 x.si) rfl
 have n7 := cell_of_block (i := 7) k0 (v := .int .i64 x.sw) rfl
 have n8 := cell_of_block (i := 8) k0 (v := .string x.name) rfl
 clear k0 k1 k2 hB0
 go_wp2_with fail
 refine (c_nodePartsN x w0).mono ?_
 rintro e w1 ⟨g, pn, rfl, hpn, hg0, hg1, hcp, hq⟩
 have HCP := hid hcp
 have HPN := hid hpn
 have hpn3 : pn ≤ 3 := by have := pcI_cases x.kind; omega
 have HB1 := hid (HB0.out.trans (hq.mono HB0.out.size))
 have HR1 := hid ((hq.block _ (by omega)).trans HK1.out)
 have H0 := hid (show VpR P pn w w1 (.int .i64 0) w1 from ⟨0, Nat.zero_le _, rfl, (hq.block _ hsz).trans HK2.out, fun _ _ _ => rfl, Nat.le_refl _, HB1.out⟩)
 have hs1 := hq.size
 clear hpn hcp hq HK1 HK2 n0 n1 n2 n3 n4 n5 n6 n7 n8
 go_wp2_with fail
 go_loopw [13] (fun i wr => VpR P pn w w1 i wr) (fun i _ => pn - (intOf i).toNat)
 case atStart => exact H0.out
 case round =>
  obtain ⟨j, hj, rfl, hk2, hoth, hsr, hBr⟩ := hrel
  have HK2 := hid hk2
  have HOT := hid hoth
  have HBr := hid hBr
  clear hk2 hoth hBr H0
  by_cases hjl : j < pn
  ·have hji : (j : Int) < pn := by omega
   have hj3 : j = 0 ∨ j = 1 ∨ j = 2 := by omega
   obtain ⟨q, hq1, hq2, hq3, hbn, hbv, d6, d7, dh⟩ := (HM.out j (by have := HPN.out; omega)).below (HBr.out.mono hBw)
   have e0 := (World.cell?_of_block (w := w1) (w' := wr) (a := ⟨g, j, none⟩) (HOT.out g hg1 (by omega))).trans (HCP.out j (by omega))
   rw [hq1] at e0
   have hqi : (q : Int) < l0 := by omega
   have hqi2 : (q : Int) < vl := by omega
   have hnb : bn ≠ w.heap.size + 2 := by omega
   have hnv : bv ≠ w.heap.size + 2 := by omega
   clear hq1
   rcases hj3 with rfl | rfl | rfl
   ·have t0 := cell_of_block (i := 0) HK2.out (v := .int .i64 (upto P 0 0).si) rfl
    have t1 := cell_of_block (i := 1) HK2.out (v := .int .i64 (upto P 0 0).sw) rfl
    have t2 := cell_of_block (i := 2) HK2.out (v := .slice (upto P 0 0).a (upto P 0 0).len (upto P 0 0).cap) rfl
    have u0 := free_of_block (i := 0) HK2.out
    have u1 := free_of_block (i := 1) HK2.out
    have u2 := free_of_block (i := 2) HK2.out
    have HQ := hid (vpr_next (P := P) hjl (by omega) HK2.out HOT.out hsr HBr.out)
    go_upto_region 5 with fail
    refine wp_region_held_drew (S := (fun w' => w'.cell? ⟨bn, on + q * 9 + 6, none⟩ = some (.int .i64 (P 0).si) ∧ w'.cell? ⟨bn, on + q * 9 + 7, none⟩ = some (.int .i64 (P 0).sw) ∧ w'.cell? ⟨bv, ov + q, none⟩ = some (.slice (P 0).a (P 0).len (P 0).cap))) (by kernel_rfl) ?_ (fun hHeld => ?_)
    ·first | exact ⟨d6, d7, dh⟩ | exact ⟨keep3 hnb d6, keep3 hnb d7, keep3 hnv dh⟩
    refine tL 0 (some 18) ?_
    refine tL 1 (some 19) ?_
    refine tL 2 (some 20) ?_
    refine tL 3 (some 21) ?_
    refine tL 4 (some 22) ?_
    refine tL 5 (some 23) ?_
    refine tL 6 (some 24) ?_
    refine tL 7 (some 25) ?_
    refine tL 8 (some 26) ?_
    refine tL 9 (some 27) ?_
    refine tL 10 (some 28) ?_
    refine tL 11 (some 29) ?_
    refine tL 12 (some 30) ?_
    refine wpAnyH_ready (rs := [13]) (by kernel_rfl) (by simp) ?_
    refine .cons (o := _) rfl (fun K hK => ?_) .nil
    go_simp
    (try clear hHeld)
    refine hK.out _ _ ?_ (fun hHeld => ?_)
    ·first | exact ⟨d6, d7, dh⟩ | exact ⟨keep3 hnb d6, keep3 hnb d7, keep3 hnv dh⟩
    clear hK K
    (try simp only [Act.put, zq1, zq2, zq3])
    refine wpAnyH_done (by kernel_rfl) ?_ _
    clear hHeld
    go_wp2_with fail
    go_roundw
    case rel => exact HQ.out
    case measure => simp [intOf] <;> omega
   ·have t0 := cell_of_block (i := 3) HK2.out (v := .int .i64 (upto P 1 1).si) rfl
    have t1 := cell_of_block (i := 4) HK2.out (v := .int .i64 (upto P 1 1).sw) rfl
    have t2 := cell_of_block (i := 5) HK2.out (v := .slice (upto P 1 1).a (upto P 1 1).len (upto P 1 1).cap) rfl
    have u0 := free_of_block (i := 3) HK2.out
    have u1 := free_of_block (i := 4) HK2.out
    have u2 := free_of_block (i := 5) HK2.out
    have HQ := hid (vpr_next (P := P) hjl (by omega) HK2.out HOT.out hsr HBr.out)
    go_upto_region 5 with fail
    refine wp_region_held_drew (S := (fun w' => w'.cell? ⟨bn, on + q * 9 + 6, none⟩ = some (.int .i64 (P 1).si) ∧ w'.cell? ⟨bn, on + q * 9 + 7, none⟩ = some (.int .i64 (P 1).sw) ∧ w'.cell? ⟨bv, ov + q, none⟩ = some (.slice (P 1).a (P 1).len (P 1).cap))) (by kernel_rfl) ?_ (fun hHeld => ?_)
    ·first | exact ⟨d6, d7, dh⟩ | exact ⟨keep3 hnb d6, keep3 hnb d7, keep3 hnv dh⟩
    refine tL 0 (some 18) ?_
    refine tL 1 (some 19) ?_
    refine tL 2 (some 20) ?_
    refine tL 3 (some 21) ?_
    refine tL 4 (some 22) ?_
    refine tL 5 (some 23) ?_
    refine tL 6 (some 24) ?_
    refine tL 7 (some 25) ?_
    refine tL 8 (some 26) ?_
    refine tL 9 (some 27) ?_
    refine tL 10 (some 28) ?_
    refine tL 11 (some 29) ?_
    refine tL 12 (some 30) ?_
    refine wpAnyH_ready (rs := [13]) (by kernel_rfl) (by simp) ?_
    refine .cons (o := _) rfl (fun K hK => ?_) .nil
    go_simp
    (try clear hHeld)
    refine hK.out _ _ ?_ (fun hHeld => ?_)
    ·first | exact ⟨d6, d7, dh⟩ | exact ⟨keep3 hnb d6, keep3 hnb d7, keep3 hnv dh⟩
    clear hK K
    (try simp only [Act.put, zq1, zq2, zq3])
    refine wpAnyH_done (by kernel_rfl) ?_ _
    clear hHeld
    go_wp2_with fail
    go_roundw
    case rel => exact HQ.out
    case measure => simp [intOf] <;> omega
   ·have t0 := cell_of_block (i := 6) HK2.out (v := .int .i64 (upto P 2 2).si) rfl
    have t1 := cell_of_block (i := 7) HK2.out (v := .int .i64 (upto P 2 2).sw) rfl
    have t2 := cell_of_block (i := 8) HK2.out (v := .slice (upto P 2 2).a (upto P 2 2).len (upto P 2 2).cap) rfl
    have u0 := free_of_block (i := 6) HK2.out
    have u1 := free_of_block (i := 7) HK2.out
    have u2 := free_of_block (i := 8) HK2.out
    have HQ := hid (vpr_next (P := P) hjl (by omega) HK2.out HOT.out hsr HBr.out)
    go_upto_region 5 with fail
    refine wp_region_held_drew (S := (fun w' => w'.cell? ⟨bn, on + q * 9 + 6, none⟩ = some (.int .i64 (P 2).si) ∧ w'.cell? ⟨bn, on + q * 9 + 7, none⟩ = some (.int .i64 (P 2).sw) ∧ w'.cell? ⟨bv, ov + q, none⟩ = some (.slice (P 2).a (P 2).len (P 2).cap))) (by kernel_rfl) ?_ (fun hHeld => ?_)
    ·first | exact ⟨d6, d7, dh⟩ | exact ⟨keep3 hnb d6, keep3 hnb d7, keep3 hnv dh⟩
    refine tL 0 (some 18) ?_
    refine tL 1 (some 19) ?_
    refine tL 2 (some 20) ?_
    refine tL 3 (some 21) ?_
    refine tL 4 (some 22) ?_
    refine tL 5 (some 23) ?_
    refine tL 6 (some 24) ?_
    refine tL 7 (some 25) ?_
    refine tL 8 (some 26) ?_
    refine tL 9 (some 27) ?_
    refine tL 10 (some 28) ?_
    refine tL 11 (some 29) ?_
    refine tL 12 (some 30) ?_
    refine wpAnyH_ready (rs := [13]) (by kernel_rfl) (by simp) ?_
    refine .cons (o := _) rfl (fun K hK => ?_) .nil
    go_simp
    (try clear hHeld)
    refine hK.out _ _ ?_ (fun hHeld => ?_)
    ·first | exact ⟨d6, d7, dh⟩ | exact ⟨keep3 hnb d6, keep3 hnb d7, keep3 hnv dh⟩
    clear hK K
    (try simp only [Act.put, zq1, zq2, zq3])
    refine wpAnyH_done (by kernel_rfl) ?_ _
    clear hHeld
    go_wp2_with fail
    go_roundw
    case rel => exact HQ.out
    case measure => simp [intOf] <;> omega
  ·have hji : ¬ (j : Int) < pn := by omega
   obtain rfl : j = pn := by omega
   have HR := hid (show wr.heap[w.heap.size + 1]? = some (.cells (p9 P 0) 124 (0, 0)) from (HOT.out _ (by omega) (by omega)).trans HR1.out)
   have t0 := cell_of_block (i := 0) HK2.out (v := .int .i64 (upto P j 0).si) rfl
   have t1 := cell_of_block (i := 1) HK2.out (v := .int .i64 (upto P j 0).sw) rfl
   have t2 := cell_of_block (i := 2) HK2.out (v := .slice (upto P j 0).a (upto P j 0).len (upto P j 0).cap) rfl
   have t3 := cell_of_block (i := 3) HK2.out (v := .int .i64 (upto P j 1).si) rfl
   have t4 := cell_of_block (i := 4) HK2.out (v := .int .i64 (upto P j 1).sw) rfl
   have t5 := cell_of_block (i := 5) HK2.out (v := .slice (upto P j 1).a (upto P j 1).len (upto P j 1).cap) rfl
   have t6 := cell_of_block (i := 6) HK2.out (v := .int .i64 (upto P j 2).si) rfl
   have t7 := cell_of_block (i := 7) HK2.out (v := .int .i64 (upto P j 2).sw) rfl
   have t8 := cell_of_block (i := 8) HK2.out (v := .slice (upto P j 2).a (upto P j 2).len (upto P j 2).cap) rfl
   go_wp2_with (refine wpList_store_row rfl 124 (.tmp 6) (.tmp 32) rfl (w.heap.size + 1) (p9 P j) rfl rfl 124 (p9 P 0) HR.out (p9_size P j) (p9_same P 0 j) (p9_all P j) ?_)
   clear t0 t1 t2 t3 t4 t5 t6 t7 t8
   have HPJ := hid (show (pcI x.kind).toNat = j by have := HPN.out; omega)
   exact bodyPost_ret (v := .agg (p9 P j)) (results_cell_row rfl _ _ (w.heap.size + 1) 124 (p9 P j) (0, 0) _ rfl (setRow_heap _ _ _ _ _ _ HR.out) Tryz.underlying124 rfl (by kernel_rfl)) rfl ⟨by rw [HPJ.out], ⟨HBr.out.os, HBr.out.tape, HBr.out.output, by simpa using HBr.out.size, fun y hy => (setRow_other _ _ _ _ (by omega)).trans (HBr.out.block y hy)⟩⟩
end Go.Proofs.YtlcgimadbpagfaaGreat
namespace Go.Proofs.YtlcgimadbpagfaaGreat
open Go.Lib
open Go.ChangeShapes Go.WideShapes Go.ChangeAt Go.RowKit Go.Maps
set_option linter.unusedVariables false
set_option maxRecDepth 100000
theorem pcn_table {k : Int} (h : 1 ≤ k ∧ k ≤ 38) : (k = 33 → pcN k = 3) ∧ (k = 37 → pcN k = 2) ∧ (k = 38 → pcN k = 3) ∧ (k = 29 → pcN k = 2) ∧ (30 ≤ k ∧ k ≤ 32 → pcN k = 1) ∧ (1 ≤ k ∧ k ≤ 5 → pcN k = 1) ∧ (6 ≤ k ∧ k ≤ 28 → pcN k = 2) ∧ (k = 34 → pcN k = 0) := by
 unfold pcN
 refine ⟨fun h => ?_, fun h => ?_, fun h => ?_, fun h => ?_, fun h => ?_, fun h => ?_, fun h => ?_, fun h => ?_⟩ <;> (repeat' split) <;> omega
theorem nodeVal_congr {ns : List ND} {x : ND} {vs vs' : List (List Int)} {k : Nat} (h : NodeIn vs k x) (h36 : ¬ x.kind = 36) (h35 : ¬ x.kind = 35) (he : ∀ i, i < k → vs.getD i [] = vs'.getD i []) : nodeVal ns x vs = nodeVal ns x vs' := by
 have hkc := kind_cases h.pc
 obtain ⟨t33, t37, t38, t29, t30, t1, t6, t34⟩ := pcn_table hkc
 have ha : 1 ≤ pcN x.kind → vs.getD x.a.toNat [] = vs'.getD x.a.toNat [] := fun h1 => he _ (h.pa h1).2.1
 have hb : 2 ≤ pcN x.kind → vs.getD x.b.toNat [] = vs'.getD x.b.toNat [] := fun h1 => he _ (h.pb h1).2.1
 have hc : 3 ≤ pcN x.kind → vs.getD x.c.toNat [] = vs'.getD x.c.toNat [] := fun h1 => he _ (h.pc3 h1).2.1
 by_cases k34 : x.kind = 34
 ·unfold nodeVal; rw [if_pos k34, if_pos k34]
 by_cases k33 : x.kind = 33
 ·have := t33 k33
  rw [nv33 k33, nv33 k33, ha (by omega), hb (by omega), hc (by omega)]
 by_cases k37 : x.kind = 37
 ·have := t37 k37
  rw [nv37 k37, nv37 k37, ha (by omega), hb (by omega)]
 by_cases k38 : x.kind = 38
 ·have := t38 k38
  rw [nv38 k38, nv38 k38, ha (by omega), hb (by omega), hc (by omega)]
 by_cases k21 : x.kind = 21
 ·have := t6 (by omega)
  rw [nv21 k21, nv21 k21, ha (by omega), hb (by omega)]
 by_cases k29 : x.kind = 29
 ·have := t29 k29
  rw [nv29 k29, nv29 k29, ha (by omega), hb (by omega)]
 by_cases k30 : x.kind = 30
 ·have := t30 (by omega)
  rw [nv30 k30, nv30 k30, ha (by omega)]
 by_cases k31 : x.kind = 31 ∨ x.kind = 32
 ·have := t30 (by omega)
  rw [nv31 k31, nv31 k31, ha (by omega)]
 by_cases k1 : 1 ≤ x.kind ∧ x.kind ≤ 5
 ·have := t1 k1
  rw [nv1 k1, nv1 k1, ha (by omega)]
 ·have := t6 (by omega)
  rw [nv2 (by omega) k21, nv2 (by omega) k21, ha (by omega), hb (by omega)]
theorem first_mem {l : List Int} (h : 0 < l.length) : l.getD 0 0 ∈ l := by cases l with
 | nil => simp at h
 | cons x l => simp
def PartsOf (B : Nat) (w : World) (ns : List ND) (x : ND) (vs : List (List Int)) (P : Nat → PT) : Prop := ∀ t : Nat, (t : Int) < pcN x.kind → (P t).sw = (sortAt ns (partAt x t)).2 ∧ IntsAt B w (P t).a (P t).len (P t).cap (vs.getD (partAt x t).toNat [])
theorem ints_none (B : Nat) (w : World) : IntsAt B w (default : PT).a (default : PT).len (default : PT).cap [] := ⟨rfl, Nat.le_refl _, Nat.zero_le _, fun x hx => by simp at hx, fun _ => rfl, .inl rfl⟩
set_option maxHeartbeats 8000000 in
theorem c_reckonNode {B : Nat} {ns : List ND} {vs : List (List Int)} {k : Nat} (x : ND) (P : Nat → PT) (w : World) (hBw : B ≤ w.heap.size) (hin : NodeIn vs k x) (hP : PartsOf B w ns x vs P) (hs4 : ∀ i, i < k → (vs.getD i []).length ≤ 4) (hres : ∀ z ∈ nodeVal ns x vs, fits z) (h36 : ¬ x.kind = 36) (h35 : ¬ x.kind = 35) :
  Calls Tryz.prog 91 #[.agg x.cells.toArray, .agg (p9 P (pcI x.kind).toNat)] w (ClnP (nodeVal ns x vs) w) := by
 have hkc := kind_cases hin.pc
 obtain ⟨t33, t37, t38, t29, t30, t1, t6, t34⟩ := pcn_table hkc
 have pci : pcI x.kind = pcN x.kind := by unfold pcI; rw [if_neg (by have := hin.pc; omega)]
 have wa : 1 ≤ pcN x.kind → ∀ wq, Below w.heap.size w wq → WordAt B wq (P 0) ((vs.getD x.a.toNat []).getD 0 0) := fun h1 wq hq => ⟨_, RowsAt.below (hP 0 (by omega)).2 (hq.mono hBw), (hin.pa h1).2.2, rfl⟩
 have wb : 2 ≤ pcN x.kind → ∀ wq, Below w.heap.size w wq → WordAt B wq (P 1) ((vs.getD x.b.toNat []).getD 0 0) := fun h1 wq hq => ⟨_, RowsAt.below (hP 1 (by omega)).2 (hq.mono hBw), (hin.pb h1).2.2, rfl⟩
 have sa : 1 ≤ pcN x.kind → (sortAt ns x.a).2 = (P 0).sw := fun h1 => (hP 0 (by omega)).1.symm
 have sb : 2 ≤ pcN x.kind → (sortAt ns x.b).2 = (P 1).sw := fun h1 => (hP 1 (by omega)).1.symm
 have ia : 1 ≤ pcN x.kind → ∀ wq, Below w.heap.size w wq → IntsAt B wq (P 0).a (P 0).len (P 0).cap (vs.getD x.a.toNat []) := fun h1 wq hq => RowsAt.below (hP 0 (by omega)).2 (hq.mono hBw)
 have ib : 2 ≤ pcN x.kind → ∀ wq, Below w.heap.size w wq → IntsAt B wq (P 1).a (P 1).len (P 1).cap (vs.getD x.b.toNat []) := fun h1 wq hq => RowsAt.below (hP 1 (by omega)).2 (hq.mono hBw)
 have ic : 3 ≤ pcN x.kind → ∀ wq, Below w.heap.size w wq → IntsAt B wq (P 2).a (P 2).len (P 2).cap (vs.getD x.c.toNat []) := fun h1 wq hq => RowsAt.below (hP 2 (by omega)).2 (hq.mono hBw)
 have hle : ∀ wq, Below w.heap.size w wq → B ≤ wq.heap.size := fun wq hq => Nat.le_trans hBw hq.size
 have e0 : p9 P 0 = parts9 default default default := rfl
 have e1 : p9 P 1 = parts9 (P 0) default default := rfl
 have e2 : p9 P 2 = parts9 (P 0) (P 1) default := rfl
 have e3 : p9 P 3 = parts9 (P 0) (P 1) (P 2) := rfl
 have f0 : ∀ (k : Int) (b : Bool), decide (k = 34) = b → fam0 k = b := fun _ _ h => h
 have f1 : ∀ (k : Int) (b : Bool), decide (1 ≤ k ∧ k ≤ 5) = b → fam1 k = b := fun _ _ h => h
 have f2 : ∀ (k : Int) (b : Bool), decide (6 ≤ k ∧ k ≤ 28 ∧ ¬ k = 21) = b → fam2 k = b := fun _ _ h => h
 have f3 : ∀ (k : Int) (b : Bool), decide (29 ≤ k ∧ k ≤ 32) = b → fam3 k = b := fun _ _ h => h
 have f4 : ∀ (k : Int) (b : Bool), decide (k = 21 ∨ k = 33 ∨ k = 37 ∨ k = 38) = b → fam4 k = b := fun _ _ h => h
 by_cases k34 : x.kind = 34
 ·have hv : nodeVal ns x vs = [x.n] := by unfold nodeVal; rw [if_pos k34]
  rw [hv] at hres ⊢
  rw [pci, t34 k34]
  exact c_reckonConst x _ _ _ w (f0 _ _ (by simp [k34])) (hres _ (by simp))
 have y0 := f0 x.kind false (by simp [k34])
 by_cases k1 : 1 ≤ x.kind ∧ x.kind ≤ 5
 ·have hp := t1 k1
  rw [nv1 k1, sa (by omega)] at hres ⊢
  rw [pci, hp]
  exact c_reckonOne x _ _ _ w y0 (f1 _ _ (by simp [k1])) _ (fun wq hq => c_oneFam (B := B) x.kind (P 0) _ wq (hle wq hq) (wa (by omega) wq hq)) (hres _ (by simp))
 have y1 := f1 x.kind false (by simp; omega)
 by_cases k2 : 6 ≤ x.kind ∧ x.kind ≤ 28 ∧ ¬ x.kind = 21
 ·have hp := t6 (by omega)
  rw [nv2 (by omega) k2.2.2, sa (by omega)] at hres ⊢
  rw [pci, hp]
  exact c_reckonTwo x _ _ _ w y0 y1 (f2 _ _ (by simp; omega)) _ (fun wq hq => c_twoFam (B := B) x.kind (P 0) _ (P 1) _ wq (hle wq hq) (wa (by omega) wq hq) (wb (by omega) wq hq)) (hres _ (by simp))
 have y2 := f2 x.kind false (by simp; omega)
 by_cases k3 : 29 ≤ x.kind ∧ x.kind ≤ 32
 ·have y3 := f3 x.kind true (by simp; omega)
  by_cases k29 : x.kind = 29
  ·have hp := t29 k29
   rw [nv29 k29, sa (by omega), sb (by omega)] at hres ⊢
   rw [pci, hp]
   exact c_reckonShape x _ _ _ w y0 y1 y2 y3 _ (fun wq hq => c_shapeFam29 (B := B) x (P 0) _ (P 1) _ wq (hle wq hq) (wa (by omega) wq hq) (wb (by omega) wq hq) k29) (hres _ (by simp))
  have hp := t30 (by omega)
  by_cases k30 : x.kind = 30
  ·rw [nv30 k30, sa (by omega)] at hres ⊢
   rw [pci, hp]
   exact c_reckonShape x _ _ _ w y0 y1 y2 y3 _ (fun wq hq => c_shapeFam30 (B := B) x (P 0) _ default 0 wq (hle wq hq) (wa (by omega) wq hq) k30) (hres _ (by simp))
  by_cases k31 : x.kind = 31
  ·have hd : decide (x.kind = 32) = false := by simp; omega
   rw [nv31 (.inl k31), sa (by omega), hd] at hres ⊢
   rw [pci, hp]
   exact c_reckonShape x _ _ _ w y0 y1 y2 y3 _ (fun wq hq => c_shapeFam31 (B := B) x (P 0) _ default 0 wq (hle wq hq) (wa (by omega) wq hq) k31) (hres _ (by simp))
  ·have k32 : x.kind = 32 := by omega
   have hd : decide (x.kind = 32) = true := by simp; omega
   rw [nv31 (.inr k32), sa (by omega), hd] at hres ⊢
   rw [pci, hp]
   exact c_reckonShape x _ _ _ w y0 y1 y2 y3 _ (fun wq hq => c_shapeFam32 (B := B) x (P 0) _ default 0 wq (hle wq hq) (wa (by omega) wq hq) k32) (hres _ (by simp))
 have y3 := f3 x.kind false (by simp; omega)
 have y4 := f4 x.kind true (by simp; omega)
 have l4 : ∀ i, i < k → (vs.getD i []).length ≤ 1048576 := fun i hi => Nat.le_trans (hs4 i hi) (by decide)
 by_cases k21 : x.kind = 21
 ·have hp := t6 (by omega)
  by_cases hab : vs.getD x.a.toNat [] = vs.getD x.b.toNat []
  ·rw [nv21t k21 hab]
   rw [pci, hp]
   refine c_reckonCell x (P 0) (P 1) default w y0 y1 y2 y3 y4 [1] (fun wq hq => ?_)
   rw [k21]
   exact c_cells21t (B := B) (P 0) (P 1) default wq (hle wq hq) (ia (by omega) wq hq) (ib (by omega) wq hq) (ints_none B wq) hab
  ·rw [nv21f k21 hab]
   rw [pci, hp]
   refine c_reckonCell x (P 0) (P 1) default w y0 y1 y2 y3 y4 [0] (fun wq hq => ?_)
   rw [k21]
   exact c_cells21f (B := B) (P 0) (P 1) default wq (hle wq hq) (ia (by omega) wq hq) (ib (by omega) wq hq) (ints_none B wq) hab
 by_cases k33 : x.kind = 33
 ·have hp := t33 k33
  by_cases hone : (vs.getD x.a.toNat []).getD 0 0 = 1
  ·rw [nv33 k33, if_pos hone]
   rw [pci, hp]
   refine c_reckonCell x (P 0) (P 1) (P 2) w y0 y1 y2 y3 y4 _ (fun wq hq => ?_)
   rw [k33]
   exact c_cells33t (B := B) (P 0) (P 1) (P 2) wq (hle wq hq) (ia (by omega) wq hq) (ib (by omega) wq hq) (ic (by omega) wq hq) (hin.pa (by omega)).2.2 hone (l4 _ (hin.pb (by omega)).2.1)
  ·rw [nv33 k33, if_neg hone]
   rw [pci, hp]
   refine c_reckonCell x (P 0) (P 1) (P 2) w y0 y1 y2 y3 y4 _ (fun wq hq => ?_)
   rw [k33]
   exact c_cells33f (B := B) (P 0) (P 1) (P 2) wq (hle wq hq) (ia (by omega) wq hq) (ib (by omega) wq hq) (ic (by omega) wq hq) (hin.pa (by omega)).2.2 hone (l4 _ (hin.pc3 (by omega)).2.1)
 by_cases k37 : x.kind = 37
 ·have hp := t37 k37
  obtain ⟨i0, i1⟩ := hin.idx (.inl k37)
  rw [nv37 k37]
  rw [pci, hp]
  refine c_reckonCell x (P 0) (P 1) default w y0 y1 y2 y3 y4 _ (fun wq hq => ?_)
  rw [k37]
  exact c_cells37 (B := B) (P 0) (P 1) default wq (hle wq hq) (ia (by omega) wq hq) (ib (by omega) wq hq) (ints_none B wq) (hin.pb (by omega)).2.2 i0 i1
 ·have k38 : x.kind = 38 := by omega
  have hp := t38 k38
  obtain ⟨i0, i1⟩ := hin.idx (.inr k38)
  have hc0 := (hP 2 (by omega)).2
  have hcl := (hin.pc3 (by omega)).2.2
  have hfc : fits ((vs.getD x.c.toNat []).getD 0 0) := hc0.2.2.2.1 _ (first_mem hcl)
  rw [nv38 k38]
  rw [pci, hp]
  refine c_reckonCell x (P 0) (P 1) (P 2) w y0 y1 y2 y3 y4 _ (fun wq hq => ?_)
  rw [k38]
  exact c_cells38 (B := B) (P 0) (P 1) (P 2) wq (hle wq hq) (ia (by omega) wq hq) (ib (by omega) wq hq) (ic (by omega) wq hq) (hin.pb (by omega)).2.2 hcl i0 i1 (l4 _ (hin.pa (by omega)).2.1) hfc
end Go.Proofs.YtlcgimadbpagfaaGreat
