/-
  Parts: EvI, EvJ, shortened.
-/
import Derived.Test.YtlcgimadbpagfaaGreatZEvN
namespace Go.Proofs.YtlcgimadbpagfaaGreat
open Go.Lib
open Go.ChangeShapes Go.WideShapes Go.ChangeAt Go.RowKit Go.Maps
set_option linter.unusedVariables false
set_option maxRecDepth 100000
structure PT where
 si : Int
 sw : Int
 a : Option Addr
 len : Nat
 cap : Nat
instance : Inhabited PT := ⟨⟨0, 0, none, 0, 0⟩⟩
def PT.cells (p : PT) : Array Value := #[.int .i64 p.si, .int .i64 p.sw, .slice p.a p.len p.cap]
def WordAt (B : Nat) (w : World) (p : PT) (z : Int) : Prop := ∃ zs, IntsAt B w p.a p.len p.cap zs ∧ 0 < zs.length ∧ zs.getD 0 0 = z
theorem WordAt.below {B : Nat} {w w' : World} {p : PT} {z : Int} (h : WordAt B w p z) (hb : Below B w w') : WordAt B w' p z := by
 obtain ⟨zs, h1, h2⟩ := h
 exact ⟨zs, RowsAt.below h1 hb, h2⟩
theorem heap_a1 (w : World) (A : Obj) : (w.alloc A).heap.size = w.heap.size + 1 := by show (w.heap.push _).size = _; simp
theorem heap2 (w : World) (A B : Obj) : ((w.alloc A).alloc B).heap[w.heap.size]? = some A ∧ ((w.alloc A).alloc B).heap[w.heap.size + 1]? = some B := by
 refine ⟨?_, ?_⟩
 ·rw [(MapKept.heap_alloc _ _).2 _ (alloc_ltS _ _)]; exact (MapKept.heap_alloc _ _).1
 ·rw [← heap_a1 w A]; exact (MapKept.heap_alloc _ _).1
theorem heap3 (w : World) (A B C : Obj) : (((w.alloc A).alloc B).alloc C).heap[w.heap.size]? = some A ∧ (((w.alloc A).alloc B).alloc C).heap[w.heap.size + 1]? = some B ∧ (((w.alloc A).alloc B).alloc C).heap[w.heap.size + 2]? = some C := by
 have h := heap2 (w.alloc A) B C
 rw [heap_a1] at h
 refine ⟨?_, h.1, h.2⟩
 rw [(MapKept.heap_alloc _ _).2 _ (Nat.lt_of_lt_of_le (alloc_ltS _ _) (Nat.le_of_lt (alloc_ltS _ _)))]; exact (heap2 w A B).1
theorem heap4 (w : World) (A B C D : Obj) : ((((w.alloc A).alloc B).alloc C).alloc D).heap[w.heap.size]? = some A ∧ ((((w.alloc A).alloc B).alloc C).alloc D).heap[w.heap.size + 1]? = some B ∧ ((((w.alloc A).alloc B).alloc C).alloc D).heap[w.heap.size + 2]? = some C ∧ ((((w.alloc A).alloc B).alloc C).alloc D).heap[w.heap.size + 3]? = some D := by
 have h := heap3 (w.alloc A) B C D
 rw [heap_a1] at h
 refine ⟨?_, h.1, h.2.1, h.2.2⟩
 rw [(MapKept.heap_alloc _ _).2 _ (by rw [heap_a1, heap_a1, heap_a1]; omega)]; exact (heap3 w A B C).1
set_option maxHeartbeats 4000000 in
theorem c_partWord {B : Nat} (p : PT) (z : Int) (w : World) (hBw : B ≤ w.heap.size) (h : WordAt B w p z) :
  Calls Tryz.prog 172 #[.agg p.cells] w fun e w' => e = .returned (.int .i64 z) ∧ Below w.heap.size w w' := by
 obtain ⟨zs, h1, h2, rfl⟩ := h
 obtain ⟨si, sw, a, len, cap⟩ := p
 simp only [PT.cells] at *
 have h3 : 0 < len := by have := h1.1; omega
 have HZ := hid h1
 clear h1 h2
 go_enter Tryz.func172, Tryz.ntmps172
 go_upto_region 1 with fail
 refine code_gen (R := fun wb => wb.cell? ⟨w.heap.size, 2, none⟩ = some (.slice a len cap) ∧ Below w.heap.size w wb) ⟨by simp, by go_grown⟩ ?_
 rintro w0 ⟨x0, hB0⟩
 obtain ⟨z, b, off, hz, -, rfl, hbB, c0⟩ := int_at (HZ.out.below (hB0.mono hBw)) h3
 have HB := hid hB0
 have HZZ := hid hz
 rw [Nat.add_zero] at c0
 clear hB0 hz
 go_wp2_with fail
 go_ret
 exact ⟨by rw [HZZ.out]; rfl, HB.out⟩
set_option maxHeartbeats 4000000 in
theorem c_oneFam {B : Nat} (kind : Int) (p0 : PT) (z0 : Int) (w : World) (hBw : B ≤ w.heap.size) (h0 : WordAt B w p0 z0) :
  Calls Tryz.prog 132 #[.agg #[], .int .i64 kind, .agg p0.cells] w fun e w' => e = .returned (.int .i64 (oneR kind p0.sw z0).1) ∧ Below w.heap.size w w' := by
 have H0 := hid h0
 clear h0
 simp only [PT.cells]
 go_enter Tryz.func132, Tryz.ntmps132
 go_upto_region 1 with fail
 refine code_gen (R := fun wb => wb.heap[w.heap.size]? = some (.cells #[] 159 (0, 0)) ∧ wb.heap[w.heap.size + 1]? = some (.cells #[.int .i64 p0.si, .int .i64 p0.sw, .slice p0.a p0.len p0.cap] 123 (0, 0)) ∧ Below w.heap.size w wb) ⟨(heap2 _ _ _).1, (heap2 _ _ _).2, by go_grown⟩ ?_
 rintro w0 ⟨k0, k1, hB0⟩
 have HB0 := hid hB0
 have hBk := Nat.le_trans hBw hB0.size
 have hsz : w.heap.size + 1 < w0.heap.size := (Array.getElem?_eq_some_iff.1 k1).1
 have c1_0 := cell_of_block (i := 0) k1 (v := .int .i64 p0.si) rfl
 have c1_1 := cell_of_block (i := 1) k1 (v := .int .i64 p0.sw) rfl
 have c1_2 := cell_of_block (i := 2) k1 (v := .slice p0.a p0.len p0.cap) rfl
 clear k0 k1
 have K0 := hid (H0.out.below (hB0.mono hBw))
 clear hB0
 have hl0 : w.heap.size < w0.heap.size := by omega
 have hl1 : w.heap.size + 1 < w0.heap.size := by omega
 go_upto_region 1 with fail
 refine wp_region_held_drew (S := (fun w' => w'.cell? ⟨w.heap.size + 1, 0, none⟩ = some (.int .i64 p0.si) ∧ w'.cell? ⟨w.heap.size + 1, 1, none⟩ = some (.int .i64 p0.sw) ∧ w'.cell? ⟨w.heap.size + 1, 2, none⟩ = some (.slice p0.a p0.len p0.cap))) (by kernel_rfl) ?_ (fun hHeld => ?_)
 ·first | exact ⟨c1_0, c1_1, c1_2⟩ | exact ⟨keepc (by go_grown) hl1 c1_0, keepc (by go_grown) hl1 c1_1, keepc (by go_grown) hl1 c1_2⟩
 refine tL 0 (some 11) ?_
 refine tL 1 (some 12) ?_
 refine tL 2 (some 13) ?_
 refine tL 3 (some 14) ?_
 refine tL 4 (some 15) ?_
 refine wpAnyH_ready (rs := [5]) (by kernel_rfl) (by simp) ?_
 refine .cons (o := _) rfl (fun K hK => ?_) .nil
 go_simp
 (first | (refine (c_partWord (B := B) p0 z0 _ (Nat.le_trans hBk (by first | exact Nat.le_refl _ | exact hbq.size | go_size)) (K0.out.below (Below.mono (show Below w0.heap.size w0 _ by go_grown) hBk))).mono ?_)); rintro e wq ⟨rfl, hq⟩; have hbq : Below w0.heap.size w0 wq := bstep (by go_grown) (Nat.le_refl _) hq; clear hq
 (try go_wp2_with fail)
 (try clear hHeld)
 refine hK.out _ _ ?_ (fun hHeld => ?_)
 ·first | exact ⟨c1_0, c1_1, c1_2⟩ | exact ⟨keepc (by go_grown) hl1 c1_0, keepc (by go_grown) hl1 c1_1, keepc (by go_grown) hl1 c1_2⟩
 clear hK K
 (try simp only [Act.put, zq1, zq2, zq3])
 refine wpAnyH_ready (rs := [6]) (by kernel_rfl) (by simp) ?_
 refine .cons (o := _) rfl (fun K hK => ?_) .nil
 go_simp
 refine (c_WordOneI kind p0.sw z0 _).mono ?_; rintro e wz ⟨rfl, hq⟩; have hbz : Below w0.heap.size w0 wz := bstep (by go_grown) (Nat.le_refl _) hq; clear hq
 (try go_wp2_with fail)
 (try clear hHeld)
 refine hK.out _ _ ?_ (fun hHeld => ?_)
 ·first | exact ⟨c1_0, c1_1, c1_2⟩ | exact ⟨keepc (by go_grown) hl1 c1_0, keepc (by go_grown) hl1 c1_1, keepc (by go_grown) hl1 c1_2⟩
 clear hK K
 (try simp only [Act.put, zq1, zq2, zq3])
 refine tL 7 (some 10) ?_
 refine tL 8 (some 18) ?_
 refine tL 9 (some 19) ?_
 refine tL 10 (some 20) ?_
 refine tL 11 (some 7) ?_
 refine tL 12 (some 8) ?_
 refine tL 13 (some 9) ?_
 refine wpAnyH_done (by kernel_rfl) ?_ _
 clear hHeld
 go_wp2_with fail
 go_ret
 exact ⟨rfl, HB0.out.trans (Below.mono (show Below w0.heap.size w0 _ by go_grown) HB0.out.size)⟩
set_option maxHeartbeats 4000000 in
theorem c_twoFam {B : Nat} (kind : Int) (p0 : PT) (z0 : Int) (p1 : PT) (z1 : Int) (w : World) (hBw : B ≤ w.heap.size) (h0 : WordAt B w p0 z0) (h1 : WordAt B w p1 z1) :
  Calls Tryz.prog 133 #[.agg #[], .int .i64 kind, .agg p0.cells, .agg p1.cells] w fun e w' => e = .returned (.int .i64 (twoR kind p0.sw z0 z1).1) ∧ Below w.heap.size w w' := by
 have H0 := hid h0
 clear h0
 have H1 := hid h1
 clear h1
 simp only [PT.cells]
 go_enter Tryz.func133, Tryz.ntmps133
 go_upto_region 1 with fail
 refine code_gen (R := fun wb => wb.heap[w.heap.size]? = some (.cells #[] 161 (0, 0)) ∧ wb.heap[w.heap.size + 1]? = some (.cells #[.int .i64 p0.si, .int .i64 p0.sw, .slice p0.a p0.len p0.cap] 123 (0, 0)) ∧ wb.heap[w.heap.size + 2]? = some (.cells #[.int .i64 p1.si, .int .i64 p1.sw, .slice p1.a p1.len p1.cap] 123 (0, 0)) ∧ Below w.heap.size w wb) ⟨(heap3 _ _ _ _).1, (heap3 _ _ _ _).2.1, (heap3 _ _ _ _).2.2, by go_grown⟩ ?_
 rintro w0 ⟨k0, k1, k2, hB0⟩
 have HB0 := hid hB0
 have hBk := Nat.le_trans hBw hB0.size
 have hsz : w.heap.size + 2 < w0.heap.size := (Array.getElem?_eq_some_iff.1 k2).1
 have c1_0 := cell_of_block (i := 0) k1 (v := .int .i64 p0.si) rfl
 have c1_1 := cell_of_block (i := 1) k1 (v := .int .i64 p0.sw) rfl
 have c1_2 := cell_of_block (i := 2) k1 (v := .slice p0.a p0.len p0.cap) rfl
 have c2_0 := cell_of_block (i := 0) k2 (v := .int .i64 p1.si) rfl
 have c2_1 := cell_of_block (i := 1) k2 (v := .int .i64 p1.sw) rfl
 have c2_2 := cell_of_block (i := 2) k2 (v := .slice p1.a p1.len p1.cap) rfl
 clear k0 k1 k2
 have K0 := hid (H0.out.below (hB0.mono hBw))
 have K1 := hid (H1.out.below (hB0.mono hBw))
 clear hB0
 have hl0 : w.heap.size < w0.heap.size := by omega
 have hl1 : w.heap.size + 1 < w0.heap.size := by omega
 have hl2 : w.heap.size + 2 < w0.heap.size := by omega
 go_upto_region 1 with fail
 refine wp_region_held_drew (S := (fun w' => w'.cell? ⟨w.heap.size + 1, 0, none⟩ = some (.int .i64 p0.si) ∧ w'.cell? ⟨w.heap.size + 1, 1, none⟩ = some (.int .i64 p0.sw) ∧ w'.cell? ⟨w.heap.size + 1, 2, none⟩ = some (.slice p0.a p0.len p0.cap) ∧ w'.cell? ⟨w.heap.size + 2, 0, none⟩ = some (.int .i64 p1.si) ∧ w'.cell? ⟨w.heap.size + 2, 1, none⟩ = some (.int .i64 p1.sw) ∧ w'.cell? ⟨w.heap.size + 2, 2, none⟩ = some (.slice p1.a p1.len p1.cap))) (by kernel_rfl) ?_ (fun hHeld => ?_)
 ·first | exact ⟨c1_0, c1_1, c1_2, c2_0, c2_1, c2_2⟩ | exact ⟨keepc (by go_grown) hl1 c1_0, keepc (by go_grown) hl1 c1_1, keepc (by go_grown) hl1 c1_2, keepc (by go_grown) hl2 c2_0, keepc (by go_grown) hl2 c2_1, keepc (by go_grown) hl2 c2_2⟩
 refine tL 0 (some 13) ?_
 refine tL 1 (some 14) ?_
 refine tL 2 (some 15) ?_
 refine tL 3 (some 16) ?_
 refine tL 4 (some 17) ?_
 refine tL 6 (some 19) ?_
 refine wpAnyH_ready (rs := [5]) (by kernel_rfl) (by simp) ?_
 refine .cons (o := _) rfl (fun K hK => ?_) .nil
 go_simp
 (first | (refine (c_partWord (B := B) p0 z0 _ (Nat.le_trans hBk (by first | exact Nat.le_refl _ | exact hbq.size | go_size)) (K0.out.below (Below.mono (show Below w0.heap.size w0 _ by go_grown) hBk))).mono ?_) | (refine (c_partWord (B := B) p1 z1 _ (Nat.le_trans hBk (by first | exact Nat.le_refl _ | exact hbq.size | go_size)) (K1.out.below (Below.mono (show Below w0.heap.size w0 _ by go_grown) hBk))).mono ?_)); rintro e wq ⟨rfl, hq⟩; have hbq : Below w0.heap.size w0 wq := bstep (by go_grown) (Nat.le_refl _) hq; clear hq
 (try go_wp2_with fail)
 (try clear hHeld)
 refine hK.out _ _ ?_ (fun hHeld => ?_)
 ·first | exact ⟨c1_0, c1_1, c1_2, c2_0, c2_1, c2_2⟩ | exact ⟨keepc (by go_grown) hl1 c1_0, keepc (by go_grown) hl1 c1_1, keepc (by go_grown) hl1 c1_2, keepc (by go_grown) hl2 c2_0, keepc (by go_grown) hl2 c2_1, keepc (by go_grown) hl2 c2_2⟩
 clear hK K
 (try simp only [Act.put, zq1, zq2, zq3])
 refine wpAnyH_ready (rs := [7]) (by kernel_rfl) (by simp) ?_
 refine .cons (o := _) rfl (fun K hK => ?_) .nil
 go_simp
 (first | (refine (c_partWord (B := B) p0 z0 _ (Nat.le_trans hBk (by first | exact Nat.le_refl _ | exact hbq.size | go_size)) (K0.out.below (Below.mono (show Below w0.heap.size w0 _ by go_grown) hBk))).mono ?_) | (refine (c_partWord (B := B) p1 z1 _ (Nat.le_trans hBk (by first | exact Nat.le_refl _ | exact hbq.size | go_size)) (K1.out.below (Below.mono (show Below w0.heap.size w0 _ by go_grown) hBk))).mono ?_)); rintro e wq ⟨rfl, hq⟩; have hbq : Below w0.heap.size w0 wq := bstep (by go_grown) (Nat.le_refl _) hq; clear hq
 (try go_wp2_with fail)
 (try clear hHeld)
 refine hK.out _ _ ?_ (fun hHeld => ?_)
 ·first | exact ⟨c1_0, c1_1, c1_2, c2_0, c2_1, c2_2⟩ | exact ⟨keepc (by go_grown) hl1 c1_0, keepc (by go_grown) hl1 c1_1, keepc (by go_grown) hl1 c1_2, keepc (by go_grown) hl2 c2_0, keepc (by go_grown) hl2 c2_1, keepc (by go_grown) hl2 c2_2⟩
 clear hK K
 (try simp only [Act.put, zq1, zq2, zq3])
 refine wpAnyH_ready (rs := [8]) (by kernel_rfl) (by simp) ?_
 refine .cons (o := _) rfl (fun K hK => ?_) .nil
 go_simp
 refine (c_WordTwoI kind p0.sw z0 z1 _).mono ?_; rintro e wz ⟨rfl, hq⟩; have hbz : Below w0.heap.size w0 wz := bstep (by go_grown) (Nat.le_refl _) hq; clear hq
 (try go_wp2_with fail)
 (try clear hHeld)
 refine hK.out _ _ ?_ (fun hHeld => ?_)
 ·first | exact ⟨c1_0, c1_1, c1_2, c2_0, c2_1, c2_2⟩ | exact ⟨keepc (by go_grown) hl1 c1_0, keepc (by go_grown) hl1 c1_1, keepc (by go_grown) hl1 c1_2, keepc (by go_grown) hl2 c2_0, keepc (by go_grown) hl2 c2_1, keepc (by go_grown) hl2 c2_2⟩
 clear hK K
 (try simp only [Act.put, zq1, zq2, zq3])
 refine tL 9 (some 12) ?_
 refine tL 10 (some 22) ?_
 refine tL 11 (some 23) ?_
 refine tL 12 (some 24) ?_
 refine tL 13 (some 9) ?_
 refine tL 14 (some 10) ?_
 refine tL 15 (some 11) ?_
 refine wpAnyH_done (by kernel_rfl) ?_ _
 clear hHeld
 go_wp2_with fail
 go_ret
 exact ⟨rfl, HB0.out.trans (Below.mono (show Below w0.heap.size w0 _ by go_grown) HB0.out.size)⟩
set_option maxHeartbeats 4000000 in
theorem c_constFam (x : ND) (w : World) : Calls Tryz.prog 131 #[.agg #[], .agg x.cells.toArray] w fun e w' => e = .returned (.int .i64 x.n) ∧ Below w.heap.size w w' := by
 simp only [ND.cells]
 go_enter Tryz.func131, Tryz.ntmps131
 go_wp2_with fail
 go_ret
 exact ⟨rfl, by go_grown⟩
set_option maxHeartbeats 4000000 in
theorem c_shapeFam29 {B : Nat} (x : ND) (p0 : PT) (z0 : Int) (p1 : PT) (z1 : Int) (w : World) (hBw : B ≤ w.heap.size) (h0 : WordAt B w p0 z0) (h1 : WordAt B w p1 z1) (hk : x.kind = 29) :
  Calls Tryz.prog 134 #[.agg #[], .agg x.cells.toArray, .agg p0.cells, .agg p1.cells] w fun e w' => e = .returned (.int .i64 (joinR p0.sw z0 p1.sw z1).1) ∧ Below w.heap.size w w' := by
 have H0 := hid h0
 clear h0
 have H1 := hid h1
 clear h1
 simp only [PT.cells, ND.cells]
 obtain ⟨xk, xa, xb, xc, xn, xm, xsi, xsw, xnm⟩ := x
 simp only at hk ⊢
 subst hk
 go_enter Tryz.func134, Tryz.ntmps134
 go_upto_region 1 with fail
 refine code_gen (R := fun wb => wb.heap[w.heap.size]? = some (.cells #[] 163 (0, 0)) ∧ wb.heap[w.heap.size + 1]? = some (.cells #[.int .i64 29, .int .i64 xa, .int .i64 xb, .int .i64 xc, .int .i64 xn, .int .i64 xm, .int .i64 xsi, .int .i64 xsw, .string xnm] 111 (0, 0)) ∧ wb.heap[w.heap.size + 2]? = some (.cells #[.int .i64 p0.si, .int .i64 p0.sw, .slice p0.a p0.len p0.cap] 123 (0, 0)) ∧ wb.heap[w.heap.size + 3]? = some (.cells #[.int .i64 p1.si, .int .i64 p1.sw, .slice p1.a p1.len p1.cap] 123 (0, 0)) ∧ Below w.heap.size w wb) ⟨(heap4 _ _ _ _ _).1, (heap4 _ _ _ _ _).2.1, (heap4 _ _ _ _ _).2.2.1, (heap4 _ _ _ _ _).2.2.2, by go_grown⟩ ?_
 rintro w0 ⟨k0, k1, k2, k3, hB0⟩
 have HB0 := hid hB0
 have hBk := Nat.le_trans hBw hB0.size
 have hsz : w.heap.size + 3 < w0.heap.size := (Array.getElem?_eq_some_iff.1 k3).1
 have c1_0 := cell_of_block (i := 0) k1 (v := .int .i64 29) rfl
 have c1_4 := cell_of_block (i := 4) k1 (v := .int .i64 xn) rfl
 have c1_5 := cell_of_block (i := 5) k1 (v := .int .i64 xm) rfl
 have c2_0 := cell_of_block (i := 0) k2 (v := .int .i64 p0.si) rfl
 have c2_1 := cell_of_block (i := 1) k2 (v := .int .i64 p0.sw) rfl
 have c2_2 := cell_of_block (i := 2) k2 (v := .slice p0.a p0.len p0.cap) rfl
 have c3_0 := cell_of_block (i := 0) k3 (v := .int .i64 p1.si) rfl
 have c3_1 := cell_of_block (i := 1) k3 (v := .int .i64 p1.sw) rfl
 have c3_2 := cell_of_block (i := 2) k3 (v := .slice p1.a p1.len p1.cap) rfl
 clear k0 k1 k2 k3
 have K0 := hid (H0.out.below (hB0.mono hBw))
 have K1 := hid (H1.out.below (hB0.mono hBw))
 clear hB0
 have hl0 : w.heap.size < w0.heap.size := by omega
 have hl1 : w.heap.size + 1 < w0.heap.size := by omega
 have hl2 : w.heap.size + 2 < w0.heap.size := by omega
 have hl3 : w.heap.size + 3 < w0.heap.size := by omega
 go_upto_region 4 with fail
 refine wp_region_held_drew (S := (fun w' => w'.cell? ⟨w.heap.size + 1, 0, none⟩ = some (.int .i64 29) ∧ w'.cell? ⟨w.heap.size + 1, 4, none⟩ = some (.int .i64 xn) ∧ w'.cell? ⟨w.heap.size + 1, 5, none⟩ = some (.int .i64 xm) ∧ w'.cell? ⟨w.heap.size + 2, 0, none⟩ = some (.int .i64 p0.si) ∧ w'.cell? ⟨w.heap.size + 2, 1, none⟩ = some (.int .i64 p0.sw) ∧ w'.cell? ⟨w.heap.size + 2, 2, none⟩ = some (.slice p0.a p0.len p0.cap) ∧ w'.cell? ⟨w.heap.size + 3, 0, none⟩ = some (.int .i64 p1.si) ∧ w'.cell? ⟨w.heap.size + 3, 1, none⟩ = some (.int .i64 p1.sw) ∧ w'.cell? ⟨w.heap.size + 3, 2, none⟩ = some (.slice p1.a p1.len p1.cap))) (by kernel_rfl) ?_ (fun hHeld => ?_)
 ·first | exact ⟨c1_0, c1_4, c1_5, c2_0, c2_1, c2_2, c3_0, c3_1, c3_2⟩ | exact ⟨keepc (by go_grown) hl1 c1_0, keepc (by go_grown) hl1 c1_4, keepc (by go_grown) hl1 c1_5, keepc (by go_grown) hl2 c2_0, keepc (by go_grown) hl2 c2_1, keepc (by go_grown) hl2 c2_2, keepc (by go_grown) hl3 c3_0, keepc (by go_grown) hl3 c3_1, keepc (by go_grown) hl3 c3_2⟩
 refine tL 0 (some 15) ?_
 refine tL 1 (some 16) ?_
 refine tL 2 (some 17) ?_
 refine tL 3 (some 18) ?_
 refine tL 5 (some 20) ?_
 refine tL 6 (some 21) ?_
 refine tL 7 (some 22) ?_
 refine tL 8 (some 23) ?_
 refine wpAnyH_ready (rs := [4]) (by kernel_rfl) (by simp) ?_
 refine .cons (o := _) rfl (fun K hK => ?_) .nil
 go_simp
 (first | (refine (c_partWord (B := B) p0 z0 _ (Nat.le_trans hBk (by first | exact Nat.le_refl _ | exact hbq.size | go_size)) (K0.out.below (Below.mono (show Below w0.heap.size w0 _ by go_grown) hBk))).mono ?_) | (refine (c_partWord (B := B) p1 z1 _ (Nat.le_trans hBk (by first | exact Nat.le_refl _ | exact hbq.size | go_size)) (K1.out.below (Below.mono (show Below w0.heap.size w0 _ by go_grown) hBk))).mono ?_)); rintro e wq ⟨rfl, hq⟩; have hbq : Below w0.heap.size w0 wq := bstep (by go_grown) (Nat.le_refl _) hq; clear hq
 (try go_wp2_with fail)
 (try clear hHeld)
 refine hK.out _ _ ?_ (fun hHeld => ?_)
 ·first | exact ⟨c1_0, c1_4, c1_5, c2_0, c2_1, c2_2, c3_0, c3_1, c3_2⟩ | exact ⟨keepc (by go_grown) hl1 c1_0, keepc (by go_grown) hl1 c1_4, keepc (by go_grown) hl1 c1_5, keepc (by go_grown) hl2 c2_0, keepc (by go_grown) hl2 c2_1, keepc (by go_grown) hl2 c2_2, keepc (by go_grown) hl3 c3_0, keepc (by go_grown) hl3 c3_1, keepc (by go_grown) hl3 c3_2⟩
 clear hK K
 (try simp only [Act.put, zq1, zq2, zq3])
 refine wpAnyH_ready (rs := [9]) (by kernel_rfl) (by simp) ?_
 refine .cons (o := _) rfl (fun K hK => ?_) .nil
 go_simp
 (first | (refine (c_partWord (B := B) p0 z0 _ (Nat.le_trans hBk (by first | exact Nat.le_refl _ | exact hbq.size | go_size)) (K0.out.below (Below.mono (show Below w0.heap.size w0 _ by go_grown) hBk))).mono ?_) | (refine (c_partWord (B := B) p1 z1 _ (Nat.le_trans hBk (by first | exact Nat.le_refl _ | exact hbq.size | go_size)) (K1.out.below (Below.mono (show Below w0.heap.size w0 _ by go_grown) hBk))).mono ?_)); rintro e wq ⟨rfl, hq⟩; have hbq : Below w0.heap.size w0 wq := bstep (by go_grown) (Nat.le_refl _) hq; clear hq
 (try go_wp2_with fail)
 (try clear hHeld)
 refine hK.out _ _ ?_ (fun hHeld => ?_)
 ·first | exact ⟨c1_0, c1_4, c1_5, c2_0, c2_1, c2_2, c3_0, c3_1, c3_2⟩ | exact ⟨keepc (by go_grown) hl1 c1_0, keepc (by go_grown) hl1 c1_4, keepc (by go_grown) hl1 c1_5, keepc (by go_grown) hl2 c2_0, keepc (by go_grown) hl2 c2_1, keepc (by go_grown) hl2 c2_2, keepc (by go_grown) hl3 c3_0, keepc (by go_grown) hl3 c3_1, keepc (by go_grown) hl3 c3_2⟩
 clear hK K
 (try simp only [Act.put, zq1, zq2, zq3])
 refine wpAnyH_ready (rs := [10]) (by kernel_rfl) (by simp) ?_
 refine .cons (o := _) rfl (fun K hK => ?_) .nil
 go_simp
 refine (c_WordJoinI p0.sw z0 p1.sw z1 _).mono ?_; rintro e wz ⟨rfl, hq⟩; (try subst hq); (try (have hbz : Below w0.heap.size w0 wz := bstep (by go_grown) (Nat.le_refl _) hq; clear hq))
 (try go_wp2_with fail)
 (try clear hHeld)
 refine hK.out _ _ ?_ (fun hHeld => ?_)
 ·first | exact ⟨c1_0, c1_4, c1_5, c2_0, c2_1, c2_2, c3_0, c3_1, c3_2⟩ | exact ⟨keepc (by go_grown) hl1 c1_0, keepc (by go_grown) hl1 c1_4, keepc (by go_grown) hl1 c1_5, keepc (by go_grown) hl2 c2_0, keepc (by go_grown) hl2 c2_1, keepc (by go_grown) hl2 c2_2, keepc (by go_grown) hl3 c3_0, keepc (by go_grown) hl3 c3_1, keepc (by go_grown) hl3 c3_2⟩
 clear hK K
 (try simp only [Act.put, zq1, zq2, zq3])
 refine tL 11 (some 14) ?_
 refine tL 12 (some 26) ?_
 refine tL 13 (some 27) ?_
 refine tL 14 (some 28) ?_
 refine tL 15 (some 9) ?_
 refine wpAnyH_done (by kernel_rfl) ?_ _
 clear hHeld
 go_wp2_with fail
 go_ret
 exact ⟨rfl, HB0.out.trans (Below.mono (show Below w0.heap.size w0 _ by go_grown) HB0.out.size)⟩
set_option maxHeartbeats 4000000 in
theorem c_shapeFam30 {B : Nat} (x : ND) (p0 : PT) (z0 : Int) (p1 : PT) (z1 : Int) (w : World) (hBw : B ≤ w.heap.size) (h0 : WordAt B w p0 z0) (hk : x.kind = 30) :
  Calls Tryz.prog 134 #[.agg #[], .agg x.cells.toArray, .agg p0.cells, .agg p1.cells] w fun e w' => e = .returned (.int .i64 (sliceR p0.sw z0 x.n x.m).1) ∧ Below w.heap.size w w' := by
 have H0 := hid h0
 clear h0
 simp only [PT.cells, ND.cells]
 obtain ⟨xk, xa, xb, xc, xn, xm, xsi, xsw, xnm⟩ := x
 simp only at hk ⊢
 subst hk
 go_enter Tryz.func134, Tryz.ntmps134
 go_upto_region 1 with fail
 refine code_gen (R := fun wb => wb.heap[w.heap.size]? = some (.cells #[] 163 (0, 0)) ∧ wb.heap[w.heap.size + 1]? = some (.cells #[.int .i64 30, .int .i64 xa, .int .i64 xb, .int .i64 xc, .int .i64 xn, .int .i64 xm, .int .i64 xsi, .int .i64 xsw, .string xnm] 111 (0, 0)) ∧ wb.heap[w.heap.size + 2]? = some (.cells #[.int .i64 p0.si, .int .i64 p0.sw, .slice p0.a p0.len p0.cap] 123 (0, 0)) ∧ wb.heap[w.heap.size + 3]? = some (.cells #[.int .i64 p1.si, .int .i64 p1.sw, .slice p1.a p1.len p1.cap] 123 (0, 0)) ∧ Below w.heap.size w wb) ⟨(heap4 _ _ _ _ _).1, (heap4 _ _ _ _ _).2.1, (heap4 _ _ _ _ _).2.2.1, (heap4 _ _ _ _ _).2.2.2, by go_grown⟩ ?_
 rintro w0 ⟨k0, k1, k2, k3, hB0⟩
 have HB0 := hid hB0
 have hBk := Nat.le_trans hBw hB0.size
 have hsz : w.heap.size + 3 < w0.heap.size := (Array.getElem?_eq_some_iff.1 k3).1
 have c1_0 := cell_of_block (i := 0) k1 (v := .int .i64 30) rfl
 have c1_4 := cell_of_block (i := 4) k1 (v := .int .i64 xn) rfl
 have c1_5 := cell_of_block (i := 5) k1 (v := .int .i64 xm) rfl
 have c2_0 := cell_of_block (i := 0) k2 (v := .int .i64 p0.si) rfl
 have c2_1 := cell_of_block (i := 1) k2 (v := .int .i64 p0.sw) rfl
 have c2_2 := cell_of_block (i := 2) k2 (v := .slice p0.a p0.len p0.cap) rfl
 clear k0 k1 k2 k3
 have K0 := hid (H0.out.below (hB0.mono hBw))
 clear hB0
 have hl0 : w.heap.size < w0.heap.size := by omega
 have hl1 : w.heap.size + 1 < w0.heap.size := by omega
 have hl2 : w.heap.size + 2 < w0.heap.size := by omega
 have hl3 : w.heap.size + 3 < w0.heap.size := by omega
 go_upto_region 6 with fail
 refine wp_region_held_drew (S := (fun w' => w'.cell? ⟨w.heap.size + 1, 0, none⟩ = some (.int .i64 30) ∧ w'.cell? ⟨w.heap.size + 1, 4, none⟩ = some (.int .i64 xn) ∧ w'.cell? ⟨w.heap.size + 1, 5, none⟩ = some (.int .i64 xm) ∧ w'.cell? ⟨w.heap.size + 2, 0, none⟩ = some (.int .i64 p0.si) ∧ w'.cell? ⟨w.heap.size + 2, 1, none⟩ = some (.int .i64 p0.sw) ∧ w'.cell? ⟨w.heap.size + 2, 2, none⟩ = some (.slice p0.a p0.len p0.cap))) (by kernel_rfl) ?_ (fun hHeld => ?_)
 ·first | exact ⟨c1_0, c1_4, c1_5, c2_0, c2_1, c2_2⟩ | exact ⟨keepc (by go_grown) hl1 c1_0, keepc (by go_grown) hl1 c1_4, keepc (by go_grown) hl1 c1_5, keepc (by go_grown) hl2 c2_0, keepc (by go_grown) hl2 c2_1, keepc (by go_grown) hl2 c2_2⟩
 refine tL 0 (some 32) ?_
 refine tL 1 (some 33) ?_
 refine tL 2 (some 34) ?_
 refine tL 3 (some 35) ?_
 refine tL 5 (some 37) ?_
 refine tL 6 (some 38) ?_
 refine tL 7 (some 39) ?_
 refine tL 8 (some 40) ?_
 refine wpAnyH_ready (rs := [4]) (by kernel_rfl) (by simp) ?_
 refine .cons (o := _) rfl (fun K hK => ?_) .nil
 go_simp
 (first | (refine (c_partWord (B := B) p0 z0 _ (Nat.le_trans hBk (by first | exact Nat.le_refl _ | exact hbq.size | go_size)) (K0.out.below (Below.mono (show Below w0.heap.size w0 _ by go_grown) hBk))).mono ?_)); rintro e wq ⟨rfl, hq⟩; have hbq : Below w0.heap.size w0 wq := bstep (by go_grown) (Nat.le_refl _) hq; clear hq
 (try go_wp2_with fail)
 (try clear hHeld)
 refine hK.out _ _ ?_ (fun hHeld => ?_)
 ·first | exact ⟨c1_0, c1_4, c1_5, c2_0, c2_1, c2_2⟩ | exact ⟨keepc (by go_grown) hl1 c1_0, keepc (by go_grown) hl1 c1_4, keepc (by go_grown) hl1 c1_5, keepc (by go_grown) hl2 c2_0, keepc (by go_grown) hl2 c2_1, keepc (by go_grown) hl2 c2_2⟩
 clear hK K
 (try simp only [Act.put, zq1, zq2, zq3])
 refine wpAnyH_ready (rs := [9]) (by kernel_rfl) (by simp) ?_
 refine .cons (o := _) rfl (fun K hK => ?_) .nil
 go_simp
 refine (c_WordSliceI p0.sw z0 xn xm _).mono ?_; rintro e wz ⟨rfl, hq⟩; (try subst hq); (try (have hbz : Below w0.heap.size w0 wz := bstep (by go_grown) (Nat.le_refl _) hq; clear hq))
 (try go_wp2_with fail)
 (try clear hHeld)
 refine hK.out _ _ ?_ (fun hHeld => ?_)
 ·first | exact ⟨c1_0, c1_4, c1_5, c2_0, c2_1, c2_2⟩ | exact ⟨keepc (by go_grown) hl1 c1_0, keepc (by go_grown) hl1 c1_4, keepc (by go_grown) hl1 c1_5, keepc (by go_grown) hl2 c2_0, keepc (by go_grown) hl2 c2_1, keepc (by go_grown) hl2 c2_2⟩
 clear hK K
 (try simp only [Act.put, zq1, zq2, zq3])
 refine tL 10 (some 31) ?_
 refine tL 11 (some 42) ?_
 refine tL 12 (some 43) ?_
 refine tL 13 (some 44) ?_
 refine tL 14 (some 9) ?_
 refine wpAnyH_done (by kernel_rfl) ?_ _
 clear hHeld
 go_wp2_with fail
 go_ret
 exact ⟨rfl, HB0.out.trans (Below.mono (show Below w0.heap.size w0 _ by go_grown) HB0.out.size)⟩
set_option maxHeartbeats 4000000 in
theorem c_shapeFam31 {B : Nat} (x : ND) (p0 : PT) (z0 : Int) (p1 : PT) (z1 : Int) (w : World) (hBw : B ≤ w.heap.size) (h0 : WordAt B w p0 z0) (hk : x.kind = 31) :
  Calls Tryz.prog 134 #[.agg #[], .agg x.cells.toArray, .agg p0.cells, .agg p1.cells] w fun e w' => e = .returned (.int .i64 (growR p0.sw z0 x.n false).1) ∧ Below w.heap.size w w' := by
 have H0 := hid h0
 clear h0
 simp only [PT.cells, ND.cells]
 obtain ⟨xk, xa, xb, xc, xn, xm, xsi, xsw, xnm⟩ := x
 simp only at hk ⊢
 subst hk
 go_enter Tryz.func134, Tryz.ntmps134
 go_upto_region 1 with fail
 refine code_gen (R := fun wb => wb.heap[w.heap.size]? = some (.cells #[] 163 (0, 0)) ∧ wb.heap[w.heap.size + 1]? = some (.cells #[.int .i64 31, .int .i64 xa, .int .i64 xb, .int .i64 xc, .int .i64 xn, .int .i64 xm, .int .i64 xsi, .int .i64 xsw, .string xnm] 111 (0, 0)) ∧ wb.heap[w.heap.size + 2]? = some (.cells #[.int .i64 p0.si, .int .i64 p0.sw, .slice p0.a p0.len p0.cap] 123 (0, 0)) ∧ wb.heap[w.heap.size + 3]? = some (.cells #[.int .i64 p1.si, .int .i64 p1.sw, .slice p1.a p1.len p1.cap] 123 (0, 0)) ∧ Below w.heap.size w wb) ⟨(heap4 _ _ _ _ _).1, (heap4 _ _ _ _ _).2.1, (heap4 _ _ _ _ _).2.2.1, (heap4 _ _ _ _ _).2.2.2, by go_grown⟩ ?_
 rintro w0 ⟨k0, k1, k2, k3, hB0⟩
 have HB0 := hid hB0
 have hBk := Nat.le_trans hBw hB0.size
 have hsz : w.heap.size + 3 < w0.heap.size := (Array.getElem?_eq_some_iff.1 k3).1
 have c1_0 := cell_of_block (i := 0) k1 (v := .int .i64 31) rfl
 have c1_4 := cell_of_block (i := 4) k1 (v := .int .i64 xn) rfl
 have c1_5 := cell_of_block (i := 5) k1 (v := .int .i64 xm) rfl
 have c2_0 := cell_of_block (i := 0) k2 (v := .int .i64 p0.si) rfl
 have c2_1 := cell_of_block (i := 1) k2 (v := .int .i64 p0.sw) rfl
 have c2_2 := cell_of_block (i := 2) k2 (v := .slice p0.a p0.len p0.cap) rfl
 clear k0 k1 k2 k3
 have K0 := hid (H0.out.below (hB0.mono hBw))
 clear hB0
 have hl0 : w.heap.size < w0.heap.size := by omega
 have hl1 : w.heap.size + 1 < w0.heap.size := by omega
 have hl2 : w.heap.size + 2 < w0.heap.size := by omega
 have hl3 : w.heap.size + 3 < w0.heap.size := by omega
 go_upto_region 9 with fail
 refine wp_region_held_drew (S := (fun w' => w'.cell? ⟨w.heap.size + 1, 0, none⟩ = some (.int .i64 31) ∧ w'.cell? ⟨w.heap.size + 1, 4, none⟩ = some (.int .i64 xn) ∧ w'.cell? ⟨w.heap.size + 1, 5, none⟩ = some (.int .i64 xm) ∧ w'.cell? ⟨w.heap.size + 2, 0, none⟩ = some (.int .i64 p0.si) ∧ w'.cell? ⟨w.heap.size + 2, 1, none⟩ = some (.int .i64 p0.sw) ∧ w'.cell? ⟨w.heap.size + 2, 2, none⟩ = some (.slice p0.a p0.len p0.cap))) (by kernel_rfl) ?_ (fun hHeld => ?_)
 ·first | exact ⟨c1_0, c1_4, c1_5, c2_0, c2_1, c2_2⟩ | exact ⟨keepc (by go_grown) hl1 c1_0, keepc (by go_grown) hl1 c1_4, keepc (by go_grown) hl1 c1_5, keepc (by go_grown) hl2 c2_0, keepc (by go_grown) hl2 c2_1, keepc (by go_grown) hl2 c2_2⟩
 refine tL 0 (some 49) ?_
 refine tL 1 (some 50) ?_
 refine tL 2 (some 51) ?_
 refine tL 3 (some 52) ?_
 refine tL 5 (some 54) ?_
 refine tL 6 (some 55) ?_
 refine tL 7 (some 56) ?_
 refine tL 8 (some 57) ?_
 refine tL 9 (some 58) ?_
 refine wpAnyH_ready (rs := [4]) (by kernel_rfl) (by simp) ?_
 refine .cons (o := _) rfl (fun K hK => ?_) .nil
 go_simp
 (first | (refine (c_partWord (B := B) p0 z0 _ (Nat.le_trans hBk (by first | exact Nat.le_refl _ | exact hbq.size | go_size)) (K0.out.below (Below.mono (show Below w0.heap.size w0 _ by go_grown) hBk))).mono ?_)); rintro e wq ⟨rfl, hq⟩; have hbq : Below w0.heap.size w0 wq := bstep (by go_grown) (Nat.le_refl _) hq; clear hq
 (try go_wp2_with fail)
 (try clear hHeld)
 refine hK.out _ _ ?_ (fun hHeld => ?_)
 ·first | exact ⟨c1_0, c1_4, c1_5, c2_0, c2_1, c2_2⟩ | exact ⟨keepc (by go_grown) hl1 c1_0, keepc (by go_grown) hl1 c1_4, keepc (by go_grown) hl1 c1_5, keepc (by go_grown) hl2 c2_0, keepc (by go_grown) hl2 c2_1, keepc (by go_grown) hl2 c2_2⟩
 clear hK K
 (try simp only [Act.put, zq1, zq2, zq3])
 refine wpAnyH_ready (rs := [10]) (by kernel_rfl) (by simp) ?_
 refine .cons (o := _) rfl (fun K hK => ?_) .nil
 go_simp
 refine (c_WordGrowI p0.sw z0 xn false _).mono ?_; rintro e wz ⟨rfl, hq⟩; (try subst hq); (try (have hbz : Below w0.heap.size w0 wz := bstep (by go_grown) (Nat.le_refl _) hq; clear hq))
 (try go_wp2_with fail)
 (try clear hHeld)
 refine hK.out _ _ ?_ (fun hHeld => ?_)
 ·first | exact ⟨c1_0, c1_4, c1_5, c2_0, c2_1, c2_2⟩ | exact ⟨keepc (by go_grown) hl1 c1_0, keepc (by go_grown) hl1 c1_4, keepc (by go_grown) hl1 c1_5, keepc (by go_grown) hl2 c2_0, keepc (by go_grown) hl2 c2_1, keepc (by go_grown) hl2 c2_2⟩
 clear hK K
 (try simp only [Act.put, zq1, zq2, zq3])
 refine tL 11 (some 48) ?_
 refine tL 12 (some 60) ?_
 refine tL 13 (some 61) ?_
 refine tL 14 (some 62) ?_
 refine tL 15 (some 9) ?_
 refine wpAnyH_done (by kernel_rfl) ?_ _
 clear hHeld
 go_wp2_with fail
 go_ret
 exact ⟨rfl, HB0.out.trans (Below.mono (show Below w0.heap.size w0 _ by go_grown) HB0.out.size)⟩
set_option maxHeartbeats 4000000 in
theorem c_shapeFam32 {B : Nat} (x : ND) (p0 : PT) (z0 : Int) (p1 : PT) (z1 : Int) (w : World) (hBw : B ≤ w.heap.size) (h0 : WordAt B w p0 z0) (hk : x.kind = 32) :
  Calls Tryz.prog 134 #[.agg #[], .agg x.cells.toArray, .agg p0.cells, .agg p1.cells] w fun e w' => e = .returned (.int .i64 (growR p0.sw z0 x.n true).1) ∧ Below w.heap.size w w' := by
 have H0 := hid h0
 clear h0
 simp only [PT.cells, ND.cells]
 obtain ⟨xk, xa, xb, xc, xn, xm, xsi, xsw, xnm⟩ := x
 simp only at hk ⊢
 subst hk
 go_enter Tryz.func134, Tryz.ntmps134
 go_upto_region 1 with fail
 refine code_gen (R := fun wb => wb.heap[w.heap.size]? = some (.cells #[] 163 (0, 0)) ∧ wb.heap[w.heap.size + 1]? = some (.cells #[.int .i64 32, .int .i64 xa, .int .i64 xb, .int .i64 xc, .int .i64 xn, .int .i64 xm, .int .i64 xsi, .int .i64 xsw, .string xnm] 111 (0, 0)) ∧ wb.heap[w.heap.size + 2]? = some (.cells #[.int .i64 p0.si, .int .i64 p0.sw, .slice p0.a p0.len p0.cap] 123 (0, 0)) ∧ wb.heap[w.heap.size + 3]? = some (.cells #[.int .i64 p1.si, .int .i64 p1.sw, .slice p1.a p1.len p1.cap] 123 (0, 0)) ∧ Below w.heap.size w wb) ⟨(heap4 _ _ _ _ _).1, (heap4 _ _ _ _ _).2.1, (heap4 _ _ _ _ _).2.2.1, (heap4 _ _ _ _ _).2.2.2, by go_grown⟩ ?_
 rintro w0 ⟨k0, k1, k2, k3, hB0⟩
 have HB0 := hid hB0
 have hBk := Nat.le_trans hBw hB0.size
 have hsz : w.heap.size + 3 < w0.heap.size := (Array.getElem?_eq_some_iff.1 k3).1
 have c1_0 := cell_of_block (i := 0) k1 (v := .int .i64 32) rfl
 have c1_4 := cell_of_block (i := 4) k1 (v := .int .i64 xn) rfl
 have c1_5 := cell_of_block (i := 5) k1 (v := .int .i64 xm) rfl
 have c2_0 := cell_of_block (i := 0) k2 (v := .int .i64 p0.si) rfl
 have c2_1 := cell_of_block (i := 1) k2 (v := .int .i64 p0.sw) rfl
 have c2_2 := cell_of_block (i := 2) k2 (v := .slice p0.a p0.len p0.cap) rfl
 clear k0 k1 k2 k3
 have K0 := hid (H0.out.below (hB0.mono hBw))
 clear hB0
 have hl0 : w.heap.size < w0.heap.size := by omega
 have hl1 : w.heap.size + 1 < w0.heap.size := by omega
 have hl2 : w.heap.size + 2 < w0.heap.size := by omega
 have hl3 : w.heap.size + 3 < w0.heap.size := by omega
 go_upto_region 9 with fail
 refine wp_region_held_drew (S := (fun w' => w'.cell? ⟨w.heap.size + 1, 0, none⟩ = some (.int .i64 32) ∧ w'.cell? ⟨w.heap.size + 1, 4, none⟩ = some (.int .i64 xn) ∧ w'.cell? ⟨w.heap.size + 1, 5, none⟩ = some (.int .i64 xm) ∧ w'.cell? ⟨w.heap.size + 2, 0, none⟩ = some (.int .i64 p0.si) ∧ w'.cell? ⟨w.heap.size + 2, 1, none⟩ = some (.int .i64 p0.sw) ∧ w'.cell? ⟨w.heap.size + 2, 2, none⟩ = some (.slice p0.a p0.len p0.cap))) (by kernel_rfl) ?_ (fun hHeld => ?_)
 ·first | exact ⟨c1_0, c1_4, c1_5, c2_0, c2_1, c2_2⟩ | exact ⟨keepc (by go_grown) hl1 c1_0, keepc (by go_grown) hl1 c1_4, keepc (by go_grown) hl1 c1_5, keepc (by go_grown) hl2 c2_0, keepc (by go_grown) hl2 c2_1, keepc (by go_grown) hl2 c2_2⟩
 refine tL 0 (some 49) ?_
 refine tL 1 (some 50) ?_
 refine tL 2 (some 51) ?_
 refine tL 3 (some 52) ?_
 refine tL 5 (some 54) ?_
 refine tL 6 (some 55) ?_
 refine tL 7 (some 56) ?_
 refine tL 8 (some 57) ?_
 refine tL 9 (some 58) ?_
 refine wpAnyH_ready (rs := [4]) (by kernel_rfl) (by simp) ?_
 refine .cons (o := _) rfl (fun K hK => ?_) .nil
 go_simp
 (first | (refine (c_partWord (B := B) p0 z0 _ (Nat.le_trans hBk (by first | exact Nat.le_refl _ | exact hbq.size | go_size)) (K0.out.below (Below.mono (show Below w0.heap.size w0 _ by go_grown) hBk))).mono ?_)); rintro e wq ⟨rfl, hq⟩; have hbq : Below w0.heap.size w0 wq := bstep (by go_grown) (Nat.le_refl _) hq; clear hq
 (try go_wp2_with fail)
 (try clear hHeld)
 refine hK.out _ _ ?_ (fun hHeld => ?_)
 ·first | exact ⟨c1_0, c1_4, c1_5, c2_0, c2_1, c2_2⟩ | exact ⟨keepc (by go_grown) hl1 c1_0, keepc (by go_grown) hl1 c1_4, keepc (by go_grown) hl1 c1_5, keepc (by go_grown) hl2 c2_0, keepc (by go_grown) hl2 c2_1, keepc (by go_grown) hl2 c2_2⟩
 clear hK K
 (try simp only [Act.put, zq1, zq2, zq3])
 refine wpAnyH_ready (rs := [10]) (by kernel_rfl) (by simp) ?_
 refine .cons (o := _) rfl (fun K hK => ?_) .nil
 go_simp
 refine (c_WordGrowI p0.sw z0 xn true _).mono ?_; rintro e wz ⟨rfl, hq⟩; (try subst hq); (try (have hbz : Below w0.heap.size w0 wz := bstep (by go_grown) (Nat.le_refl _) hq; clear hq))
 (try go_wp2_with fail)
 (try clear hHeld)
 refine hK.out _ _ ?_ (fun hHeld => ?_)
 ·first | exact ⟨c1_0, c1_4, c1_5, c2_0, c2_1, c2_2⟩ | exact ⟨keepc (by go_grown) hl1 c1_0, keepc (by go_grown) hl1 c1_4, keepc (by go_grown) hl1 c1_5, keepc (by go_grown) hl2 c2_0, keepc (by go_grown) hl2 c2_1, keepc (by go_grown) hl2 c2_2⟩
 clear hK K
 (try simp only [Act.put, zq1, zq2, zq3])
 refine tL 11 (some 48) ?_
 refine tL 12 (some 60) ?_
 refine tL 13 (some 61) ?_
 refine tL 14 (some 62) ?_
 refine tL 15 (some 9) ?_
 refine wpAnyH_done (by kernel_rfl) ?_ _
 clear hHeld
 go_wp2_with fail
 go_ret
 exact ⟨rfl, HB0.out.trans (Below.mono (show Below w0.heap.size w0 _ by go_grown) HB0.out.size)⟩
end Go.Proofs.YtlcgimadbpagfaaGreat
namespace Go.Proofs.YtlcgimadbpagfaaGreat
open Go.Lib
open Go.ChangeShapes Go.WideShapes Go.ChangeAt Go.RowKit Go.Maps
set_option linter.unusedVariables false
set_option maxRecDepth 100000
set_option maxHeartbeats 4000000 in
theorem c_cells21t {B : Nat} (p0 p1 p2 : PT) {zs0 zs1 zs2 : List Int} (w : World) (hBw : B ≤ w.heap.size) (h0 : IntsAt B w p0.a p0.len p0.cap zs0) (h1 : IntsAt B w p1.a p1.len p1.cap zs1) (h2 : IntsAt B w p2.a p2.len p2.cap zs2) (hab : zs0 = zs1) :
  Calls Tryz.prog 135 #[.agg #[], .int .i64 21, .agg p0.cells, .agg p1.cells, .agg p2.cells] w (ClnP [1] w) := by
 have H0 := hid h0
 have H1 := hid h1
 have H2 := hid h2
 clear h0 h1 h2
 simp only [PT.cells]
 go_enter Tryz.func135, Tryz.ntmps135
 go_upto_region 1 with fail
 refine code_gen (R := fun wb => wb.heap[w.heap.size + 1]? = some (.cells #[.int .i64 p0.si, .int .i64 p0.sw, .slice p0.a p0.len p0.cap] 123 (0, 0)) ∧ wb.heap[w.heap.size + 2]? = some (.cells #[.int .i64 p1.si, .int .i64 p1.sw, .slice p1.a p1.len p1.cap] 123 (0, 0)) ∧ wb.heap[w.heap.size + 3]? = some (.cells #[.int .i64 p2.si, .int .i64 p2.sw, .slice p2.a p2.len p2.cap] 123 (0, 0)) ∧ Below w.heap.size w wb) ⟨(heap4 _ _ _ _ _).2.1, (heap4 _ _ _ _ _).2.2.1, (heap4 _ _ _ _ _).2.2.2, by go_grown⟩ ?_
 rintro w0 ⟨k0, k1, k2, hB0⟩
 have HB0 := hid hB0
 have hBk := Nat.le_trans hBw hB0.size
 have hsz : w.heap.size + 3 < w0.heap.size := (Array.getElem?_eq_some_iff.1 k2).1
 have hl1 : w.heap.size + 1 < w0.heap.size := by omega
 have hl2 : w.heap.size + 2 < w0.heap.size := by omega
 have hl3 : w.heap.size + 3 < w0.heap.size := by omega
 have c0_0 := cell_of_block (i := 0) k0 (v := .int .i64 p0.si) rfl
 have c0_1 := cell_of_block (i := 1) k0 (v := .int .i64 p0.sw) rfl
 have c0_2 := cell_of_block (i := 2) k0 (v := .slice p0.a p0.len p0.cap) rfl
 have K0 := hid (H0.out.below (hB0.mono hBw))
 have c1_0 := cell_of_block (i := 0) k1 (v := .int .i64 p1.si) rfl
 have c1_1 := cell_of_block (i := 1) k1 (v := .int .i64 p1.sw) rfl
 have c1_2 := cell_of_block (i := 2) k1 (v := .slice p1.a p1.len p1.cap) rfl
 have K1 := hid (H1.out.below (hB0.mono hBw))
 have c2_0 := cell_of_block (i := 0) k2 (v := .int .i64 p2.si) rfl
 have c2_1 := cell_of_block (i := 1) k2 (v := .int .i64 p2.sw) rfl
 have c2_2 := cell_of_block (i := 2) k2 (v := .slice p2.a p2.len p2.cap) rfl
 have K2 := hid (H2.out.below (hB0.mono hBw))
 clear hB0 k0 k1 k2
 have HAB := hid hab
 clear hab
 go_wp2_with fail
 refine (c_Equal (B := B) w0 hBk K0.out K1.out).mono ?_
 rintro e w1 ⟨he, hq⟩
 obtain rfl := boolIs_t HAB.out he
 have HB1 := hid (HB0.out.trans (hq.mono HB0.out.size))
 clear he hq c0_0 c0_1 c0_2 c1_0 c1_1 c1_2 c2_0 c2_1 c2_2
 go_wp2_with fail
 refine (c_wordFlag true w1).mono ?_
 rintro e w2 ⟨rfl, rfl⟩
 have HE := hid (Below.alloc HB1.out HB1.out.size (.cells #[.int .i64 1] 3))
 go_wp2_with fail
 go_ret
 exact ⟨_, rfl, own_lit HB1.out.size (MapKept.heap_alloc _ _).1 (WalkArith.wf_i64 (by omega)), HE.out⟩
set_option maxHeartbeats 4000000 in
theorem c_cells21f {B : Nat} (p0 p1 p2 : PT) {zs0 zs1 zs2 : List Int} (w : World) (hBw : B ≤ w.heap.size) (h0 : IntsAt B w p0.a p0.len p0.cap zs0) (h1 : IntsAt B w p1.a p1.len p1.cap zs1) (h2 : IntsAt B w p2.a p2.len p2.cap zs2) (hab : ¬ zs0 = zs1) :
  Calls Tryz.prog 135 #[.agg #[], .int .i64 21, .agg p0.cells, .agg p1.cells, .agg p2.cells] w (ClnP [0] w) := by
 have H0 := hid h0
 have H1 := hid h1
 have H2 := hid h2
 clear h0 h1 h2
 simp only [PT.cells]
 go_enter Tryz.func135, Tryz.ntmps135
 go_upto_region 1 with fail
 refine code_gen (R := fun wb => wb.heap[w.heap.size + 1]? = some (.cells #[.int .i64 p0.si, .int .i64 p0.sw, .slice p0.a p0.len p0.cap] 123 (0, 0)) ∧ wb.heap[w.heap.size + 2]? = some (.cells #[.int .i64 p1.si, .int .i64 p1.sw, .slice p1.a p1.len p1.cap] 123 (0, 0)) ∧ wb.heap[w.heap.size + 3]? = some (.cells #[.int .i64 p2.si, .int .i64 p2.sw, .slice p2.a p2.len p2.cap] 123 (0, 0)) ∧ Below w.heap.size w wb) ⟨(heap4 _ _ _ _ _).2.1, (heap4 _ _ _ _ _).2.2.1, (heap4 _ _ _ _ _).2.2.2, by go_grown⟩ ?_
 rintro w0 ⟨k0, k1, k2, hB0⟩
 have HB0 := hid hB0
 have hBk := Nat.le_trans hBw hB0.size
 have hsz : w.heap.size + 3 < w0.heap.size := (Array.getElem?_eq_some_iff.1 k2).1
 have hl1 : w.heap.size + 1 < w0.heap.size := by omega
 have hl2 : w.heap.size + 2 < w0.heap.size := by omega
 have hl3 : w.heap.size + 3 < w0.heap.size := by omega
 have c0_0 := cell_of_block (i := 0) k0 (v := .int .i64 p0.si) rfl
 have c0_1 := cell_of_block (i := 1) k0 (v := .int .i64 p0.sw) rfl
 have c0_2 := cell_of_block (i := 2) k0 (v := .slice p0.a p0.len p0.cap) rfl
 have K0 := hid (H0.out.below (hB0.mono hBw))
 have c1_0 := cell_of_block (i := 0) k1 (v := .int .i64 p1.si) rfl
 have c1_1 := cell_of_block (i := 1) k1 (v := .int .i64 p1.sw) rfl
 have c1_2 := cell_of_block (i := 2) k1 (v := .slice p1.a p1.len p1.cap) rfl
 have K1 := hid (H1.out.below (hB0.mono hBw))
 have c2_0 := cell_of_block (i := 0) k2 (v := .int .i64 p2.si) rfl
 have c2_1 := cell_of_block (i := 1) k2 (v := .int .i64 p2.sw) rfl
 have c2_2 := cell_of_block (i := 2) k2 (v := .slice p2.a p2.len p2.cap) rfl
 have K2 := hid (H2.out.below (hB0.mono hBw))
 clear hB0 k0 k1 k2
 have HAB := hid hab
 clear hab
 go_wp2_with fail
 refine (c_Equal (B := B) w0 hBk K0.out K1.out).mono ?_
 rintro e w1 ⟨he, hq⟩
 obtain rfl := boolIs_f HAB.out he
 have HB1 := hid (HB0.out.trans (hq.mono HB0.out.size))
 clear he hq c0_0 c0_1 c0_2 c1_0 c1_1 c1_2 c2_0 c2_1 c2_2
 go_wp2_with fail
 refine (c_wordFlag false w1).mono ?_
 rintro e w2 ⟨rfl, rfl⟩
 have HE := hid (Below.alloc HB1.out HB1.out.size (.cells #[.int .i64 0] 3))
 go_wp2_with fail
 go_ret
 exact ⟨_, rfl, own_lit HB1.out.size (MapKept.heap_alloc _ _).1 (WalkArith.wf_i64 (by omega)), HE.out⟩
set_option maxHeartbeats 4000000 in
theorem c_cells33t {B : Nat} (p0 p1 p2 : PT) {zs0 zs1 zs2 : List Int} (w : World) (hBw : B ≤ w.heap.size) (h0 : IntsAt B w p0.a p0.len p0.cap zs0) (h1 : IntsAt B w p1.a p1.len p1.cap zs1) (h2 : IntsAt B w p2.a p2.len p2.cap zs2) (hz0 : 0 < zs0.length) (hone : zs0.getD 0 0 = 1) (hl4 : zs1.length ≤ 1048576) :
  Calls Tryz.prog 135 #[.agg #[], .int .i64 33, .agg p0.cells, .agg p1.cells, .agg p2.cells] w (ClnP zs1 w) := by
 have H0 := hid h0
 have H1 := hid h1
 have H2 := hid h2
 clear h0 h1 h2
 simp only [PT.cells]
 go_enter Tryz.func135, Tryz.ntmps135
 go_upto_region 1 with fail
 refine code_gen (R := fun wb => wb.heap[w.heap.size + 1]? = some (.cells #[.int .i64 p0.si, .int .i64 p0.sw, .slice p0.a p0.len p0.cap] 123 (0, 0)) ∧ wb.heap[w.heap.size + 2]? = some (.cells #[.int .i64 p1.si, .int .i64 p1.sw, .slice p1.a p1.len p1.cap] 123 (0, 0)) ∧ wb.heap[w.heap.size + 3]? = some (.cells #[.int .i64 p2.si, .int .i64 p2.sw, .slice p2.a p2.len p2.cap] 123 (0, 0)) ∧ Below w.heap.size w wb) ⟨(heap4 _ _ _ _ _).2.1, (heap4 _ _ _ _ _).2.2.1, (heap4 _ _ _ _ _).2.2.2, by go_grown⟩ ?_
 rintro w0 ⟨k0, k1, k2, hB0⟩
 have HB0 := hid hB0
 have hBk := Nat.le_trans hBw hB0.size
 have hsz : w.heap.size + 3 < w0.heap.size := (Array.getElem?_eq_some_iff.1 k2).1
 have hl1 : w.heap.size + 1 < w0.heap.size := by omega
 have hl2 : w.heap.size + 2 < w0.heap.size := by omega
 have hl3 : w.heap.size + 3 < w0.heap.size := by omega
 have c0_0 := cell_of_block (i := 0) k0 (v := .int .i64 p0.si) rfl
 have c0_1 := cell_of_block (i := 1) k0 (v := .int .i64 p0.sw) rfl
 have c0_2 := cell_of_block (i := 2) k0 (v := .slice p0.a p0.len p0.cap) rfl
 have K0 := hid (H0.out.below (hB0.mono hBw))
 have c1_0 := cell_of_block (i := 0) k1 (v := .int .i64 p1.si) rfl
 have c1_1 := cell_of_block (i := 1) k1 (v := .int .i64 p1.sw) rfl
 have c1_2 := cell_of_block (i := 2) k1 (v := .slice p1.a p1.len p1.cap) rfl
 have K1 := hid (H1.out.below (hB0.mono hBw))
 have c2_0 := cell_of_block (i := 0) k2 (v := .int .i64 p2.si) rfl
 have c2_1 := cell_of_block (i := 1) k2 (v := .int .i64 p2.sw) rfl
 have c2_2 := cell_of_block (i := 2) k2 (v := .slice p2.a p2.len p2.cap) rfl
 have K2 := hid (H2.out.below (hB0.mono hBw))
 clear hB0 k0 k1 k2
 have HON := hid hone
 clear hone
 go_wp2_with fail
 refine (c_partWord (B := B) p0 (zs0.getD 0 0) w0 hBk ⟨zs0, K0.out, hz0, rfl⟩).mono ?_
 rintro e w1 ⟨rfl, hq⟩
 obtain ⟨z, hz⟩ : ∃ z, zs0.getD 0 0 = z := ⟨_, rfl⟩
 have hzo : z = 1 := by rw [← hz]; exact HON.out
 rw [hz]
 have d := keepc hq hl2 c1_2
 have J := hid (K1.out.below (hq.mono hBk))
 have hB1 := Nat.le_trans hBk hq.size
 have HB1 := hid (HB0.out.trans (hq.mono HB0.out.size))
 clear hz hq c0_0 c0_1 c0_2 c1_0 c1_1 c1_2 c2_0 c2_1 c2_2
 go_wp2_with fail
 refine (c_Clone (B := B) w1 hB1 J.out (by have := J.out.1; omega)).mono ?_
 rintro e w2 ⟨x, rfl, hox, hq⟩
 have HOX := hid (World.ownsInts.mono' hox HB1.out.size)
 have HE := hid (HB1.out.trans (hq.mono HB1.out.size))
 clear hox hq d
 go_wp2_with fail
 go_ret
 exact ⟨_, rfl, HOX.out, HE.out⟩
set_option maxHeartbeats 4000000 in
theorem c_cells33f {B : Nat} (p0 p1 p2 : PT) {zs0 zs1 zs2 : List Int} (w : World) (hBw : B ≤ w.heap.size) (h0 : IntsAt B w p0.a p0.len p0.cap zs0) (h1 : IntsAt B w p1.a p1.len p1.cap zs1) (h2 : IntsAt B w p2.a p2.len p2.cap zs2) (hz0 : 0 < zs0.length) (hone : ¬ zs0.getD 0 0 = 1) (hl4 : zs2.length ≤ 1048576) :
  Calls Tryz.prog 135 #[.agg #[], .int .i64 33, .agg p0.cells, .agg p1.cells, .agg p2.cells] w (ClnP zs2 w) := by
 have H0 := hid h0
 have H1 := hid h1
 have H2 := hid h2
 clear h0 h1 h2
 simp only [PT.cells]
 go_enter Tryz.func135, Tryz.ntmps135
 go_upto_region 1 with fail
 refine code_gen (R := fun wb => wb.heap[w.heap.size + 1]? = some (.cells #[.int .i64 p0.si, .int .i64 p0.sw, .slice p0.a p0.len p0.cap] 123 (0, 0)) ∧ wb.heap[w.heap.size + 2]? = some (.cells #[.int .i64 p1.si, .int .i64 p1.sw, .slice p1.a p1.len p1.cap] 123 (0, 0)) ∧ wb.heap[w.heap.size + 3]? = some (.cells #[.int .i64 p2.si, .int .i64 p2.sw, .slice p2.a p2.len p2.cap] 123 (0, 0)) ∧ Below w.heap.size w wb) ⟨(heap4 _ _ _ _ _).2.1, (heap4 _ _ _ _ _).2.2.1, (heap4 _ _ _ _ _).2.2.2, by go_grown⟩ ?_
 rintro w0 ⟨k0, k1, k2, hB0⟩
 have HB0 := hid hB0
 have hBk := Nat.le_trans hBw hB0.size
 have hsz : w.heap.size + 3 < w0.heap.size := (Array.getElem?_eq_some_iff.1 k2).1
 have hl1 : w.heap.size + 1 < w0.heap.size := by omega
 have hl2 : w.heap.size + 2 < w0.heap.size := by omega
 have hl3 : w.heap.size + 3 < w0.heap.size := by omega
 have c0_0 := cell_of_block (i := 0) k0 (v := .int .i64 p0.si) rfl
 have c0_1 := cell_of_block (i := 1) k0 (v := .int .i64 p0.sw) rfl
 have c0_2 := cell_of_block (i := 2) k0 (v := .slice p0.a p0.len p0.cap) rfl
 have K0 := hid (H0.out.below (hB0.mono hBw))
 have c1_0 := cell_of_block (i := 0) k1 (v := .int .i64 p1.si) rfl
 have c1_1 := cell_of_block (i := 1) k1 (v := .int .i64 p1.sw) rfl
 have c1_2 := cell_of_block (i := 2) k1 (v := .slice p1.a p1.len p1.cap) rfl
 have K1 := hid (H1.out.below (hB0.mono hBw))
 have c2_0 := cell_of_block (i := 0) k2 (v := .int .i64 p2.si) rfl
 have c2_1 := cell_of_block (i := 1) k2 (v := .int .i64 p2.sw) rfl
 have c2_2 := cell_of_block (i := 2) k2 (v := .slice p2.a p2.len p2.cap) rfl
 have K2 := hid (H2.out.below (hB0.mono hBw))
 clear hB0 k0 k1 k2
 have HON := hid hone
 clear hone
 go_wp2_with fail
 refine (c_partWord (B := B) p0 (zs0.getD 0 0) w0 hBk ⟨zs0, K0.out, hz0, rfl⟩).mono ?_
 rintro e w1 ⟨rfl, hq⟩
 obtain ⟨z, hz⟩ : ∃ z, zs0.getD 0 0 = z := ⟨_, rfl⟩
 have hzo : ¬ z = 1 := by rw [← hz]; exact HON.out
 rw [hz]
 have d := keepc hq hl3 c2_2
 have J := hid (K2.out.below (hq.mono hBk))
 have hB1 := Nat.le_trans hBk hq.size
 have HB1 := hid (HB0.out.trans (hq.mono HB0.out.size))
 clear hz hq c0_0 c0_1 c0_2 c1_0 c1_1 c1_2 c2_0 c2_1 c2_2
 go_wp2_with fail
 refine (c_Clone (B := B) w1 hB1 J.out (by have := J.out.1; omega)).mono ?_
 rintro e w2 ⟨x, rfl, hox, hq⟩
 have HOX := hid (World.ownsInts.mono' hox HB1.out.size)
 have HE := hid (HB1.out.trans (hq.mono HB1.out.size))
 clear hox hq d
 go_wp2_with fail
 go_ret
 exact ⟨_, rfl, HOX.out, HE.out⟩
set_option maxHeartbeats 4000000 in
theorem c_cells37 {B : Nat} (p0 p1 p2 : PT) {zs0 zs1 zs2 : List Int} (w : World) (hBw : B ≤ w.heap.size) (h0 : IntsAt B w p0.a p0.len p0.cap zs0) (h1 : IntsAt B w p1.a p1.len p1.cap zs1) (h2 : IntsAt B w p2.a p2.len p2.cap zs2) (hz1 : 0 < zs1.length) (hib0 : 0 ≤ zs1.getD 0 0) (hib : (zs1.getD 0 0).toNat < zs0.length) :
  Calls Tryz.prog 135 #[.agg #[], .int .i64 37, .agg p0.cells, .agg p1.cells, .agg p2.cells] w (ClnP [zs0.getD (zs1.getD 0 0).toNat 0] w) := by
 have H0 := hid h0
 have H1 := hid h1
 have H2 := hid h2
 clear h0 h1 h2
 simp only [PT.cells]
 go_enter Tryz.func135, Tryz.ntmps135
 go_upto_region 1 with fail
 refine code_gen (R := fun wb => wb.heap[w.heap.size + 1]? = some (.cells #[.int .i64 p0.si, .int .i64 p0.sw, .slice p0.a p0.len p0.cap] 123 (0, 0)) ∧ wb.heap[w.heap.size + 2]? = some (.cells #[.int .i64 p1.si, .int .i64 p1.sw, .slice p1.a p1.len p1.cap] 123 (0, 0)) ∧ wb.heap[w.heap.size + 3]? = some (.cells #[.int .i64 p2.si, .int .i64 p2.sw, .slice p2.a p2.len p2.cap] 123 (0, 0)) ∧ Below w.heap.size w wb) ⟨(heap4 _ _ _ _ _).2.1, (heap4 _ _ _ _ _).2.2.1, (heap4 _ _ _ _ _).2.2.2, by go_grown⟩ ?_
 rintro w0 ⟨k0, k1, k2, hB0⟩
 have HB0 := hid hB0
 have hBk := Nat.le_trans hBw hB0.size
 have hsz : w.heap.size + 3 < w0.heap.size := (Array.getElem?_eq_some_iff.1 k2).1
 have hl1 : w.heap.size + 1 < w0.heap.size := by omega
 have hl2 : w.heap.size + 2 < w0.heap.size := by omega
 have hl3 : w.heap.size + 3 < w0.heap.size := by omega
 have c0_0 := cell_of_block (i := 0) k0 (v := .int .i64 p0.si) rfl
 have c0_1 := cell_of_block (i := 1) k0 (v := .int .i64 p0.sw) rfl
 have c0_2 := cell_of_block (i := 2) k0 (v := .slice p0.a p0.len p0.cap) rfl
 have K0 := hid (H0.out.below (hB0.mono hBw))
 have c1_0 := cell_of_block (i := 0) k1 (v := .int .i64 p1.si) rfl
 have c1_1 := cell_of_block (i := 1) k1 (v := .int .i64 p1.sw) rfl
 have c1_2 := cell_of_block (i := 2) k1 (v := .slice p1.a p1.len p1.cap) rfl
 have K1 := hid (H1.out.below (hB0.mono hBw))
 have c2_0 := cell_of_block (i := 0) k2 (v := .int .i64 p2.si) rfl
 have c2_1 := cell_of_block (i := 1) k2 (v := .int .i64 p2.sw) rfl
 have c2_2 := cell_of_block (i := 2) k2 (v := .slice p2.a p2.len p2.cap) rfl
 have K2 := hid (H2.out.below (hB0.mono hBw))
 clear hB0 k0 k1 k2
 obtain ⟨ib, hibe⟩ : ∃ ib : Nat, zs1.getD 0 0 = ib := ⟨(zs1.getD 0 0).toNat, by omega⟩
 rw [hibe, Int.toNat_natCast] at hib
 have hib' : ib < p0.len := by have := K0.out.1; omega
 have hibi : (ib : Int) < p0.len := by omega
 obtain ⟨zi, ba, oa, hzi, hfz, hbe, hbB, f_zi⟩ := int_at K0.out hib'
 have HE0 := hid hbe
 rw [hbe] at c0_2
 have hlba : ba < w0.heap.size := Nat.lt_of_lt_of_le hbB hBk
 have HIB := hid hibe
 have HZI := hid hzi
 have HFZ := hid hfz
 clear hibe hzi hfz hbe hib0
 go_upto_region 5 with fail
 refine wp_region_held_drew (S := (fun w' => w'.cell? ⟨w.heap.size + 1, 2, none⟩ = some (.slice (some ⟨ba, oa, none⟩) p0.len p0.cap) ∧ w'.cell? ⟨w.heap.size + 2, 0, none⟩ = some (.int .i64 p1.si) ∧ w'.cell? ⟨w.heap.size + 2, 1, none⟩ = some (.int .i64 p1.sw) ∧ w'.cell? ⟨w.heap.size + 2, 2, none⟩ = some (.slice p1.a p1.len p1.cap) ∧ w'.cell? ⟨ba, oa + ib, none⟩ = some (.int .i64 zi))) (by kernel_rfl) ?_ (fun hHeld => ?_)
 ·first | exact ⟨c0_2, c1_0, c1_1, c1_2, f_zi⟩ | exact ⟨keepc hbq hl1 c0_2, keepc hbq hl2 c1_0, keepc hbq hl2 c1_1, keepc hbq hl2 c1_2, keepc hbq hlba f_zi⟩ | exact ⟨keepc (Below.alloc hbq hbq.size _) hl1 c0_2, keepc (Below.alloc hbq hbq.size _) hl2 c1_0, keepc (Below.alloc hbq hbq.size _) hl2 c1_1, keepc (Below.alloc hbq hbq.size _) hl2 c1_2, keepc (Below.alloc hbq hbq.size _) hlba f_zi⟩
 refine tL 0 (some 24) ?_
 refine tL 1 (some 25) ?_
 refine tL 2 (some 26) ?_
 refine wpAnyH_ready (rs := [3]) (by kernel_rfl) (by simp) ?_
 refine .cons (o := _) rfl (fun K hK => ?_) .nil
 go_simp
 refine (c_partWord (B := B) p1 (zs1.getD 0 0) _ (Nat.le_trans hBk (by first | exact Nat.le_refl _ | exact hbq.size | go_size)) ⟨zs1, K1.out.below (Below.mono (show Below w0.heap.size w0 _ by go_grown) hBk), hz1, rfl⟩).mono ?_; rintro e wq ⟨he, hq⟩; rw [HIB.out] at he; subst he; have hbq : Below w0.heap.size w0 wq := bstep (by go_grown) (Nat.le_refl _) hq; clear hq
 (try go_wp2_with fail)
 (try clear hHeld)
 refine hK.out _ _ ?_ (fun hHeld => ?_)
 ·first | exact ⟨c0_2, c1_0, c1_1, c1_2, f_zi⟩ | exact ⟨keepc hbq hl1 c0_2, keepc hbq hl2 c1_0, keepc hbq hl2 c1_1, keepc hbq hl2 c1_2, keepc hbq hlba f_zi⟩ | exact ⟨keepc (Below.alloc hbq hbq.size _) hl1 c0_2, keepc (Below.alloc hbq hbq.size _) hl2 c1_0, keepc (Below.alloc hbq hbq.size _) hl2 c1_1, keepc (Below.alloc hbq hbq.size _) hl2 c1_2, keepc (Below.alloc hbq hbq.size _) hlba f_zi⟩
 clear hK K
 (try simp only [Act.put, zq1, zq2, zq3])
 refine tL 4 (some 28) ?_
 refine tL 5 (some 29) ?_
 refine wpAnyH_ready (rs := [6]) (by kernel_rfl) (by simp) ?_
 refine .cons (o := _) rfl (fun K hK => ?_) .nil
 go_simp
 (try clear hHeld)
 refine hK.out _ _ ?_ (fun hHeld => ?_)
 ·first | exact ⟨c0_2, c1_0, c1_1, c1_2, f_zi⟩ | exact ⟨keepc hbq hl1 c0_2, keepc hbq hl2 c1_0, keepc hbq hl2 c1_1, keepc hbq hl2 c1_2, keepc hbq hlba f_zi⟩ | exact ⟨keepc (Below.alloc hbq hbq.size _) hl1 c0_2, keepc (Below.alloc hbq hbq.size _) hl2 c1_0, keepc (Below.alloc hbq hbq.size _) hl2 c1_1, keepc (Below.alloc hbq hbq.size _) hl2 c1_2, keepc (Below.alloc hbq hbq.size _) hlba f_zi⟩
 clear hK K
 (try simp only [Act.put, zq1, zq2, zq3])
 refine tL 7 (some 10) ?_
 refine wpAnyH_done (by kernel_rfl) ?_ _
 clear hHeld
 have HQ := hid (HB0.out.trans (hbq.mono HB0.out.size))
 have HE := hid (Below.alloc HQ.out HQ.out.size (.cells #[.int .i64 zi] 3))
 go_wp2_with fail
 go_ret
 exact ⟨_, rfl, by rw [HIB.out, Int.toNat_natCast, HZI.out]; exact own_lit HQ.out.size (MapKept.heap_alloc _ _).1 HFZ.out, HE.out⟩
set_option maxHeartbeats 4000000 in
theorem c_cells38 {B : Nat} (p0 p1 p2 : PT) {zs0 zs1 zs2 : List Int} (w : World) (hBw : B ≤ w.heap.size) (h0 : IntsAt B w p0.a p0.len p0.cap zs0) (h1 : IntsAt B w p1.a p1.len p1.cap zs1) (h2 : IntsAt B w p2.a p2.len p2.cap zs2) (hz1 : 0 < zs1.length) (hz2 : 0 < zs2.length) (hib0 : 0 ≤ zs1.getD 0 0) (hib : (zs1.getD 0 0).toNat < zs0.length) (hl4 : zs0.length ≤ 1048576) (hfc : fits (zs2.getD 0 0)) :
  Calls Tryz.prog 135 #[.agg #[], .int .i64 38, .agg p0.cells, .agg p1.cells, .agg p2.cells] w (ClnP (zs0.set (zs1.getD 0 0).toNat (zs2.getD 0 0)) w) := by
 have H0 := hid h0
 have H1 := hid h1
 have H2 := hid h2
 clear h0 h1 h2
 simp only [PT.cells]
 go_enter Tryz.func135, Tryz.ntmps135
 go_upto_region 1 with fail
 refine code_gen (R := fun wb => wb.heap[w.heap.size + 1]? = some (.cells #[.int .i64 p0.si, .int .i64 p0.sw, .slice p0.a p0.len p0.cap] 123 (0, 0)) ∧ wb.heap[w.heap.size + 2]? = some (.cells #[.int .i64 p1.si, .int .i64 p1.sw, .slice p1.a p1.len p1.cap] 123 (0, 0)) ∧ wb.heap[w.heap.size + 3]? = some (.cells #[.int .i64 p2.si, .int .i64 p2.sw, .slice p2.a p2.len p2.cap] 123 (0, 0)) ∧ Below w.heap.size w wb) ⟨(heap4 _ _ _ _ _).2.1, (heap4 _ _ _ _ _).2.2.1, (heap4 _ _ _ _ _).2.2.2, by go_grown⟩ ?_
 rintro w0 ⟨k0, k1, k2, hB0⟩
 have HB0 := hid hB0
 have hBk := Nat.le_trans hBw hB0.size
 have hsz : w.heap.size + 3 < w0.heap.size := (Array.getElem?_eq_some_iff.1 k2).1
 have hl1 : w.heap.size + 1 < w0.heap.size := by omega
 have hl2 : w.heap.size + 2 < w0.heap.size := by omega
 have hl3 : w.heap.size + 3 < w0.heap.size := by omega
 have c0_0 := cell_of_block (i := 0) k0 (v := .int .i64 p0.si) rfl
 have c0_1 := cell_of_block (i := 1) k0 (v := .int .i64 p0.sw) rfl
 have c0_2 := cell_of_block (i := 2) k0 (v := .slice p0.a p0.len p0.cap) rfl
 have K0 := hid (H0.out.below (hB0.mono hBw))
 have c1_0 := cell_of_block (i := 0) k1 (v := .int .i64 p1.si) rfl
 have c1_1 := cell_of_block (i := 1) k1 (v := .int .i64 p1.sw) rfl
 have c1_2 := cell_of_block (i := 2) k1 (v := .slice p1.a p1.len p1.cap) rfl
 have K1 := hid (H1.out.below (hB0.mono hBw))
 have c2_0 := cell_of_block (i := 0) k2 (v := .int .i64 p2.si) rfl
 have c2_1 := cell_of_block (i := 1) k2 (v := .int .i64 p2.sw) rfl
 have c2_2 := cell_of_block (i := 2) k2 (v := .slice p2.a p2.len p2.cap) rfl
 have K2 := hid (H2.out.below (hB0.mono hBw))
 clear hB0 k0 k1 k2
 obtain ⟨ib, hibe⟩ : ∃ ib : Nat, zs1.getD 0 0 = ib := ⟨(zs1.getD 0 0).toNat, by omega⟩
 obtain ⟨cv, hcv⟩ : ∃ c, zs2.getD 0 0 = c := ⟨_, rfl⟩
 rw [hibe, Int.toNat_natCast] at hib
 rw [hcv] at hfc
 have HIB := hid hibe
 have HCV := hid hcv
 have HFC := hid hfc
 have hibi : (ib : Int) < zs0.length := by omega
 clear hibe hcv hfc hib0
 go_wp2_with fail
 refine (c_Clone (B := B) w0 hBk K0.out (by have := K0.out.1; omega)).mono ?_
 rintro e w1 ⟨x, rfl, hox, hq⟩
 obtain ⟨gx, xc, rfl, hgx, hgl⟩ := hox.1.form (show 0 < zs0.length by omega)
 have HOX := hid hox
 have HQ1 := hid hq
 have hs01 := hq.size
 have d1_0 := keepc hq hl2 c1_0
 have d1_1 := keepc hq hl2 c1_1
 have d1_2 := keepc hq hl2 c1_2
 have d2_0 := keepc hq hl3 c2_0
 have d2_1 := keepc hq hl3 c2_1
 have d2_2 := keepc hq hl3 c2_2
 have m2 : w.heap.size + 2 < w1.heap.size := by omega
 have m3 : w.heap.size + 3 < w1.heap.size := by omega
 have HB1 := hid (HB0.out.trans (hq.mono HB0.out.size))
 have hB1 := Nat.le_trans hBk hq.size
 have J1 := hid (K1.out.below (hq.mono hBk))
 have J2 := hid (K2.out.below (hq.mono hBk))
 clear hox hq c0_0 c0_1 c0_2 c1_0 c1_1 c1_2 c2_0 c2_1 c2_2
 go_upto_region 8 with fail
 refine wp_region_held_drew (S := (fun w' => w'.cell? ⟨w.heap.size + 2, 0, none⟩ = some (.int .i64 p1.si) ∧ w'.cell? ⟨w.heap.size + 2, 1, none⟩ = some (.int .i64 p1.sw) ∧ w'.cell? ⟨w.heap.size + 2, 2, none⟩ = some (.slice p1.a p1.len p1.cap) ∧ w'.cell? ⟨w.heap.size + 3, 0, none⟩ = some (.int .i64 p2.si) ∧ w'.cell? ⟨w.heap.size + 3, 1, none⟩ = some (.int .i64 p2.sw) ∧ w'.cell? ⟨w.heap.size + 3, 2, none⟩ = some (.slice p2.a p2.len p2.cap))) (by kernel_rfl) ?_ (fun hHeld => ?_)
 ·first | exact ⟨d1_0, d1_1, d1_2, d2_0, d2_1, d2_2⟩ | exact ⟨keepc hbr m2 d1_0, keepc hbr m2 d1_1, keepc hbr m2 d1_2, keepc hbr m3 d2_0, keepc hbr m3 d2_1, keepc hbr m3 d2_2⟩ | exact ⟨keepc hbq m2 d1_0, keepc hbq m2 d1_1, keepc hbq m2 d1_2, keepc hbq m3 d2_0, keepc hbq m3 d2_1, keepc hbq m3 d2_2⟩ | exact ⟨keepS hbr m2 (by omega) d1_0, keepS hbr m2 (by omega) d1_1, keepS hbr m2 (by omega) d1_2, keepS hbr m3 (by omega) d2_0, keepS hbr m3 (by omega) d2_1, keepS hbr m3 (by omega) d2_2⟩
 refine tL 0 (some 36) ?_
 refine tL 1 (some 37) ?_
 refine tL 3 (some 39) ?_
 refine wpAnyH_ready (rs := [2]) (by kernel_rfl) (by simp) ?_
 refine .cons (o := _) rfl (fun K hK => ?_) .nil
 go_simp
 (first | (refine (c_partWord (B := B) p1 (zs1.getD 0 0) _ (Nat.le_trans hB1 (by first | exact Nat.le_refl _ | exact hbq.size | go_size)) ⟨zs1, J1.out.below (Below.mono (show Below w1.heap.size w1 _ by go_grown) hB1), hz1, rfl⟩).mono ?_; rintro e wq ⟨he, hq⟩; rw [HIB.out] at he; subst he; have hbq : Below w1.heap.size w1 wq := bstep (by go_grown) (Nat.le_refl _) hq; clear hq) | (refine (c_partWord (B := B) p2 (zs2.getD 0 0) _ (Nat.le_trans hB1 (by first | exact Nat.le_refl _ | exact hbq.size | go_size)) ⟨zs2, J2.out.below (Below.mono (show Below w1.heap.size w1 _ by go_grown) hB1), hz2, rfl⟩).mono ?_; rintro e wr ⟨he, hq⟩; rw [HCV.out] at he; subst he; have hbr : Below w1.heap.size w1 wr := bstep (by go_grown) (Nat.le_refl _) hq; have HOR := hid (ownI_below HOX.out hbr); have z0 := HOR.out.1.cellAt ib (by simpa using hib); have z1 := HOR.out.1.frozenAt ib; rw [show (zs0.map (Value.int .i64))[ib]? = some (.int .i64 (zs0.getD ib 0)) by simp [List.getD, hib]] at z0; clear hq))
 (try go_wp2_with fail)
 (try clear hHeld)
 refine hK.out _ _ ?_ (fun hHeld => ?_)
 ·first | exact ⟨d1_0, d1_1, d1_2, d2_0, d2_1, d2_2⟩ | exact ⟨keepc hbr m2 d1_0, keepc hbr m2 d1_1, keepc hbr m2 d1_2, keepc hbr m3 d2_0, keepc hbr m3 d2_1, keepc hbr m3 d2_2⟩ | exact ⟨keepc hbq m2 d1_0, keepc hbq m2 d1_1, keepc hbq m2 d1_2, keepc hbq m3 d2_0, keepc hbq m3 d2_1, keepc hbq m3 d2_2⟩ | exact ⟨keepS hbr m2 (by omega) d1_0, keepS hbr m2 (by omega) d1_1, keepS hbr m2 (by omega) d1_2, keepS hbr m3 (by omega) d2_0, keepS hbr m3 (by omega) d2_1, keepS hbr m3 (by omega) d2_2⟩
 clear hK K
 (try simp only [Act.put, zq1, zq2, zq3])
 refine wpAnyH_ready (rs := [4]) (by kernel_rfl) (by simp) ?_
 refine .cons (o := _) rfl (fun K hK => ?_) .nil
 go_simp
 (first | (refine (c_partWord (B := B) p1 (zs1.getD 0 0) _ (Nat.le_trans hB1 (by first | exact Nat.le_refl _ | exact hbq.size | go_size)) ⟨zs1, J1.out.below (Below.mono (show Below w1.heap.size w1 _ by go_grown) hB1), hz1, rfl⟩).mono ?_; rintro e wq ⟨he, hq⟩; rw [HIB.out] at he; subst he; have hbq : Below w1.heap.size w1 wq := bstep (by go_grown) (Nat.le_refl _) hq; clear hq) | (refine (c_partWord (B := B) p2 (zs2.getD 0 0) _ (Nat.le_trans hB1 (by first | exact Nat.le_refl _ | exact hbq.size | go_size)) ⟨zs2, J2.out.below (Below.mono (show Below w1.heap.size w1 _ by go_grown) hB1), hz2, rfl⟩).mono ?_; rintro e wr ⟨he, hq⟩; rw [HCV.out] at he; subst he; have hbr : Below w1.heap.size w1 wr := bstep (by go_grown) (Nat.le_refl _) hq; have HOR := hid (ownI_below HOX.out hbr); have z0 := HOR.out.1.cellAt ib (by simpa using hib); have z1 := HOR.out.1.frozenAt ib; rw [show (zs0.map (Value.int .i64))[ib]? = some (.int .i64 (zs0.getD ib 0)) by simp [List.getD, hib]] at z0; clear hq))
 (try go_wp2_with fail)
 (try clear hHeld)
 refine hK.out _ _ ?_ (fun hHeld => ?_)
 ·first | exact ⟨d1_0, d1_1, d1_2, d2_0, d2_1, d2_2⟩ | exact ⟨keepc hbr m2 d1_0, keepc hbr m2 d1_1, keepc hbr m2 d1_2, keepc hbr m3 d2_0, keepc hbr m3 d2_1, keepc hbr m3 d2_2⟩ | exact ⟨keepc hbq m2 d1_0, keepc hbq m2 d1_1, keepc hbq m2 d1_2, keepc hbq m3 d2_0, keepc hbq m3 d2_1, keepc hbq m3 d2_2⟩ | exact ⟨keepS hbr m2 (by omega) d1_0, keepS hbr m2 (by omega) d1_1, keepS hbr m2 (by omega) d1_2, keepS hbr m3 (by omega) d2_0, keepS hbr m3 (by omega) d2_1, keepS hbr m3 (by omega) d2_2⟩
 clear hK K
 (try simp only [Act.put, zq1, zq2, zq3])
 refine tL 5 (some 41) ?_
 refine wpAnyH_ready (rs := [6]) (by kernel_rfl) (by simp) ?_
 refine .cons (o := _) rfl (fun K hK => ?_) .nil
 go_simp
 (try clear hHeld)
 refine hK.out _ _ ?_ (fun hHeld => ?_)
 ·first | exact ⟨d1_0, d1_1, d1_2, d2_0, d2_1, d2_2⟩ | exact ⟨keepc hbr m2 d1_0, keepc hbr m2 d1_1, keepc hbr m2 d1_2, keepc hbr m3 d2_0, keepc hbr m3 d2_1, keepc hbr m3 d2_2⟩ | exact ⟨keepc hbq m2 d1_0, keepc hbq m2 d1_1, keepc hbq m2 d1_2, keepc hbq m3 d2_0, keepc hbq m3 d2_1, keepc hbq m3 d2_2⟩ | exact ⟨keepS hbr m2 (by omega) d1_0, keepS hbr m2 (by omega) d1_1, keepS hbr m2 (by omega) d1_2, keepS hbr m3 (by omega) d2_0, keepS hbr m3 (by omega) d2_1, keepS hbr m3 (by omega) d2_2⟩
 clear hK K
 (try simp only [Act.put, zq1, zq2, zq3])
 refine wpAnyH_done (by kernel_rfl) ?_ _
 clear hHeld
 have hst := (HOR.out.1.stored ib (.int .i64 cv)).1
 have HO2 := hid (show (wr.setCell ⟨gx, ib, none⟩ (.int .i64 cv)).ownsInts w.heap.size 3 .i64 (.slice (some ⟨gx, 0, none⟩) zs0.length xc) (zs0.set ib cv) from by
  refine World.ownsInts.mono' (base := w0.heap.size) ⟨?_, fun y hy => by
   rcases List.mem_or_eq_of_mem_set hy with hy | rfl
   ·exact HOR.out.2 y hy
   ·exact HFC.out⟩ HB0.out.size
  rw [List.map_set, List.length_set]
  exact hst)
 have HE := hid (Below.setCell (p := ⟨gx, ib, none⟩) (HB1.out.trans (hbr.mono HB1.out.size)) (by show w.heap.size ≤ gx; omega) (.int .i64 cv))
 clear hst z0 z1
 go_wp2_with fail
 go_ret
 exact ⟨_, rfl, by rw [HIB.out, Int.toNat_natCast, HCV.out]; exact HO2.out, HE.out⟩
end Go.Proofs.YtlcgimadbpagfaaGreat
