/-
  Parts: EvN, shortened.
-/
import Derived.Test.YtlcgimadbpagfaaGreatZEvS
namespace Go.Proofs.YtlcgimadbpagfaaGreat
open Go.Lib
open Go.ChangeShapes Go.WideShapes Go.ChangeAt Go.RowKit Go.Maps
set_option linter.unusedVariables false
set_option maxRecDepth 100000
theorem vals_form {B : Nat} {w : World} {va : Option Addr} {vl vc : Nat} {vs : List (List Int)} (hv : ValsAt B w va vl vc vs) (h : 0 < vl) : ∃ bv ov, va = some ⟨bv, ov, none⟩ ∧ bv < B := by
 obtain ⟨a', l', c', b, off, e, hb, -, -⟩ := val_at hv h
 exact ⟨b, off, e, hb⟩
theorem part_at {B : Nat} {w : World} {bv ov vl vc : Nat} {vs : List (List Int)} {p : Int} (hv : ValsAt B w (some ⟨bv, ov, none⟩) vl vc vs) (hp : PartOk vs vl p) :
  ∃ (q l c b o : Nat), p = q ∧ q < vl ∧ 0 < l ∧ b < B ∧ w.cell? ⟨bv, ov + q, none⟩ = some (.slice (some ⟨b, o, none⟩) l c) ∧ IntsAt B w (some ⟨b, o, none⟩) l c (vs.getD q []) ∧ w.cell? ⟨b, o, none⟩ = some (.int .i64 ((vs.getD q []).getD 0 0)) := by
 obtain ⟨h1, h2, h3⟩ := hp
 obtain ⟨q, rfl⟩ : ∃ q : Nat, p = q := ⟨p.toNat, by omega⟩
 rw [Int.toNat_natCast] at h2 h3
 obtain ⟨a', l, c, b', off', e, hb, hc, hz⟩ := val_at hv h2
 injection e with e
 injection e with e1 e2
 subst e1; subst e2
 have hl : 0 < l := by have := hz.1; omega
 obtain ⟨z, b, o, hz0, -, rfl, hbB, hc0⟩ := int_at hz hl
 exact ⟨q, l, c, b, o, rfl, h2, hl, hbB, hc, hz, by rw [hz0]; simpa using hc0⟩
structure NdW (xc : Array Value) (A : Value) (w wb : World) : Prop where
 b0 : wb.heap[w.heap.size]? = some (.cells xc 111 (0, 0))
 b1 : wb.heap[w.heap.size + 1]? = some (.cells #[.slice none 0 0] 69 (0, 0))
 b2 : wb.heap[w.heap.size + 2]? = some (.cells #[A] 69 (0, 0))
 B : Below w.heap.size w wb
theorem NdW.lt {xc : Array Value} {A : Value} {w wb : World} (h : NdW xc A w wb) : w.heap.size + 2 < wb.heap.size := (Array.getElem?_eq_some_iff.1 h.b2).1
theorem NdW.below {xc : Array Value} {A : Value} {w wb w' : World} (h : NdW xc A w wb) (hb : Below wb.heap.size wb w') : NdW xc A w w' :=
 have hl := h.lt
 ⟨(hb.block _ (by omega)).trans h.b0, (hb.block _ (by omega)).trans h.b1, (hb.block _ hl).trans h.b2, h.B.trans (hb.mono h.B.size)⟩
structure NdV (xc : Array Value) (w wb : World) : Prop where
 b0 : wb.heap[w.heap.size]? = some (.cells xc 111 (0, 0))
 b1 : wb.heap[w.heap.size + 1]? = some (.cells #[.slice none 0 0] 69 (0, 0))
 sz : wb.heap.size = w.heap.size + 2
 B : Below w.heap.size w wb
theorem NdV.start (xc : Array Value) (w : World) : NdV xc w ((w.alloc (.cells xc 111)).alloc (.cells #[.slice none 0 0] 69)) := by
 have e : (w.alloc (.cells xc 111)).heap.size = w.heap.size + 1 := by show (w.heap.push _).size = _; simp
 refine ⟨?_, ?_, ?_, by go_grown⟩
 ·rw [(MapKept.heap_alloc _ _).2 _ (alloc_ltS _ _)]
  exact (MapKept.heap_alloc _ _).1
 ·rw [← e]
  exact (MapKept.heap_alloc _ _).1
 ·show ((w.heap.push _).push _).size = _; simp
theorem NdV.next {xc : Array Value} {w wv : World} (h : NdV xc w wv) (A : Value) : NdW xc A w (wv.alloc (.cells #[A] 69)) := by
 have hs := h.sz
 refine ⟨?_, ?_, ?_, h.B.alloc h.B.size _⟩
 ·rw [(MapKept.heap_alloc _ _).2 _ (by omega)]; exact h.b0
 ·rw [(MapKept.heap_alloc _ _).2 _ (by omega)]; exact h.b1
 ·rw [← hs]; exact (MapKept.heap_alloc _ _).1
theorem keepS {w w' : World} {g o r i : Nat} {v X : Value} (hb : Below w.heap.size w w') (hg : g < w.heap.size) (hne : g ≠ r) (h : w.cell? ⟨g, o, none⟩ = some v) : (w'.setCell ⟨r, i, none⟩ X).cell? ⟨g, o, none⟩ = some v :=
 (World.cell?_setCell_other _ _ _ _ (by simp <;> omega)).trans (keepc hb hg h)
theorem nd_own {w w1 w2 : World} {x : Value} {zs : List Int} (hw : w.heap.size + 2 < w1.heap.size) (ho : w2.ownsInts w1.heap.size 3 .i64 x zs) (X : Value) : (w2.setCell ⟨w.heap.size + 1, 0, none⟩ X).ownsInts w.heap.size 3 .i64 x zs :=
 own_block (World.ownsInts.mono' ho (by omega)) (fun y _ _ h3 => heap_setCell_other _ _ _ _ (by have := (ho.1.lt y h3).1; show y ≠ w.heap.size + 1; omega))
def NdIs (ns : List ND) (x : ND) (vs : List (List Int)) (zs : List Int) : Prop := nodeVal ns x vs = zs
set_option maxHeartbeats 8000000 in
theorem c_l4Node33 {B : Nat} {a0' : Option Addr} {l0 p0 : Nat} {ns : List ND} {va : Option Addr} {vl vc : Nat} {vs : List (List Int)} (x : ND) (w : World) (hBw : B ≤ w.heap.size) (h : NodesAt B w a0' l0 p0 ns) (hv : ValsAt B w va vl vc vs) (hvl : vl ≤ l0) (hin : NodeIn vs vl x) (h1 : 1 ≤ pcN x.kind) (hs : ∀ i, i < vl → (vs.getD i []).length ≤ 4) (hres : ∀ z ∈ nodeVal ns x vs, fits z) (hk : x.kind = 33) :
  Calls Tryz.prog 87 #[.slice a0' l0 p0, .agg x.cells.toArray, .slice va vl vc] w (ValP (nodeVal ns x vs) w) := by
 obtain ⟨k0, pa, pb, pc, n, m, si, sw, nm⟩ := x
 simp only [ND.cells] at *
 subst hk
 have HN := hid h
 have HV := hid hv
 have HS := hid hs
 have hpa := hin.pa h1
 obtain ⟨bv, ov, rfl, hbv⟩ := vals_form hv (show 0 < vl by have := hpa.2.1; omega)
 obtain ⟨qa, la, ca, ba, oa, hqa, hqal, hla, hbaB, f_ha, hza, f_za⟩ := part_at hv hpa
 simp only at hqa
 subst hqa
 obtain ⟨nda, bn, on, hnda, rfl, hbn, hcn⟩ := kind_at h (show qa < l0 by omega)
 obtain ⟨-, -, -, -, -, -, -, d7, -⟩ := node_cells hcn
 obtain ⟨wa, hwa⟩ : ∃ wa, nda.sw = wa := ⟨_, rfl⟩
 rw [hwa] at d7
 have HWA := hid (show (sortAt ns (qa : Int)).2 = wa by unfold sortAt; rw [Int.toNat_natCast, hnda]; exact hwa)
 have hm : vl ≤ maxLen := hv.le
 have hm2 : l0 ≤ maxLen := Nat.le_trans h.2.1 h.2.2.1
 unfold maxLen at hm hm2
 have hlam := hs qa hqal
 have hlal : (vs.getD qa []).length = la := hza.1
 have hla4 : la ≤ 4 := by omega
 obtain ⟨zas, hzas⟩ : ∃ zs, vs.getD qa [] = zs := ⟨_, rfl⟩
 obtain ⟨a0, ha0⟩ : ∃ z, zas.getD 0 0 = z := ⟨_, rfl⟩
 rw [hzas, ha0] at f_za
 have HZAS := hid hzas
 have HA0 := hid ha0
 have HIN := hid hin
 have HRES := hid hres
 have hqai : (qa : Int) < vl := by omega
 have hqai2 : (qa : Int) < l0 := by omega
 clear h hv hs hpa hnda hcn hwa hza hlal hlam hzas ha0 hin hres
 go_enter Tryz.func87, Tryz.ntmps87
 go_upto_region 1 with fail
 refine code_gen (R := fun wb => NdV #[.int .i64 33, .int .i64 (qa : Int), .int .i64 pb, .int .i64 pc, .int .i64 n, .int .i64 m, .int .i64 si, .int .i64 sw, .string nm] w wb) (NdV.start _ _) ?_
 intro wv hnv
 have HNV := hid hnv
 have g1 := cell_of_block (i := 1) hnv.b0 (v := .int .i64 (qa : Int)) rfl
 have g2 := (hnv.B.cell (p := ⟨bv, ov + qa, none⟩) (by show bv < w.heap.size; omega)).trans f_ha
 clear hnv
 go_upto_region 2 with fail
 refine code_gen (R := fun wb => NdW #[.int .i64 33, .int .i64 (qa : Int), .int .i64 pb, .int .i64 pc, .int .i64 n, .int .i64 m, .int .i64 si, .int .i64 sw, .string nm] (.slice (some ⟨ba, oa, none⟩) la ca) w wb) (HNV.out.next _) ?_
 intro w0 hnw
 rw [HNV.out.sz]
 have g3 := cell_of_block (i := 1) hnw.b0 (v := .int .i64 (qa : Int)) rfl
 have g4 := (hnw.B.cell (p := ⟨bn, on + qa * 9 + 7, none⟩) (by show bn < w.heap.size; omega)).trans d7
 clear g1 g2 HNV
 go_upto_region 3 with fail
 clear g3 g4
 have HNW := hid hnw
 have hlt := hnw.lt
 have HV0 := hid (HV.out.below (hnw.B.mono hBw))
 have HN0 := hid (HN.out.rows.below (hnw.B.mono hBw)).nodes
 have f_n0 := cell_of_block (i := 0) hnw.b0 (v := .int .i64 33) rfl
 have f_n4 := cell_of_block (i := 4) hnw.b0 (v := .int .i64 n) rfl
 have f_n5 := cell_of_block (i := 5) hnw.b0 (v := .int .i64 m) rfl
 have f_A := cell_of_block (i := 0) hnw.b2 (v := .slice (some ⟨ba, oa, none⟩) la ca) rfl
 have r0 := cell_of_block (i := 0) hnw.b1 (v := .slice none 0 0) rfl
 have r1 := free_of_block (i := 0) hnw.b1
 have f_za0 := f_za
 replace f_za := (hnw.B.cell (p := ⟨ba, oa, none⟩) (by show ba < w.heap.size; omega)).trans f_za
 have hl0 : w.heap.size < w0.heap.size := by omega
 have hl2 : w.heap.size + 2 < w0.heap.size := hlt
 have hlba : ba < w0.heap.size := by omega
 have hlbv : bv < w0.heap.size := by omega
 have hlbn : bn < w0.heap.size := by omega
 have hzaI := hid (show IntsAt B w0 (some ⟨ba, oa, none⟩) la ca zas from by
  obtain ⟨a', l', c', b', o', e, -, hc', hz'⟩ := val_at HV0.out hqal
  injection e with e
  injection e with e1 e2
  subst e1; subst e2
  have := (hnw.B.cell (p := ⟨bv, ov + qa, none⟩) (by show bv < w.heap.size; omega)).trans f_ha
  rw [hc'] at this
  simp only [Option.some.injEq, Value.slice.injEq] at this
  obtain ⟨rfl, rfl, rfl⟩ := this
  rw [HZAS.out] at hz'
  exact hz')
 have HNW2 := hid (show w0.heap[w.heap.size]? = some (.cells #[.int .i64 33, .int .i64 (qa : Int), .int .i64 pb, .int .i64 pc, .int .i64 n, .int .i64 m, .int .i64 si, .int .i64 sw, .string nm] 111 (0, 0)) from hnw.b0)
 clear hnw f_ha d7 f_za0
 have hin := HIN.out
 have f_n2 := cell_of_block (i := 2) HNW2.out (v := .int .i64 pb) rfl
 obtain ⟨qb, lb, cb, bb, ob, hqb, hqbl, hlb, hbB, f_hb, hzb, f_zb⟩ := part_at HV0.out (hin.pb (by show 2 ≤ pcN 33; decide))
 simp only at hqb
 subst hqb
 have hlbb : bb < w0.heap.size := by omega
 obtain ⟨zbs, hzbs⟩ : ∃ zs, vs.getD qb [] = zs := ⟨_, rfl⟩
 have hlb4 : lb ≤ 4 := by have h1 := HS.out qb hqbl; have h2 := hzb.1; omega
 obtain ⟨b0, hb0⟩ : ∃ z, zbs.getD 0 0 = z := ⟨_, rfl⟩
 rw [hzbs] at hzb f_zb
 rw [hb0] at f_zb
 have HZBS := hid hzbs
 have HB0 := hid hb0
 have HZB := hid hzb
 have hqbi : (qb : Int) < vl := by omega
 have hqbi2 : (qb : Int) < l0 := by omega
 clear hin hzb hzbs hb0
 have hin := HIN.out
 have f_n3 := cell_of_block (i := 3) HNW2.out (v := .int .i64 pc) rfl
 obtain ⟨qc, lc, cc, bc, oc, hqc, hqcl, hlc, hcB, f_hc, hzc, f_zc⟩ := part_at HV0.out (hin.pc3 (by show 3 ≤ pcN 33; decide))
 simp only at hqc
 subst hqc
 have hlbc : bc < w0.heap.size := by omega
 obtain ⟨zcs, hzcs⟩ : ∃ zs, vs.getD qc [] = zs := ⟨_, rfl⟩
 have hlc4 : lc ≤ 4 := by have h1 := HS.out qc hqcl; have h2 := hzc.1; omega
 obtain ⟨c0, hc0⟩ : ∃ z, zcs.getD 0 0 = z := ⟨_, rfl⟩
 rw [hzcs] at hzc f_zc
 rw [hc0] at f_zc
 have HZCS := hid hzcs
 have HC0 := hid hc0
 have HZC := hid hzc
 have hqci : (qc : Int) < vl := by omega
 clear hin hzc hzcs hc0
 by_cases hone : a0 = 1
 ·have HEQ := hid (show NdIs ns ⟨33, qa, qb, qc, n, m, si, sw, nm⟩ vs zbs from (nv33 rfl).trans (by
   simp only [Int.toNat_natCast]
   rw [HZAS.out, HA0.out, if_pos hone, HZBS.out]))
  go_wp2_with fail
  refine (c_l4Copy (B := w0.heap.size) w0 (Nat.le_refl _) (HZB.out.mono (by omega)) (by have := HZB.out.1; omega)).mono ?_
  rintro e w1 ⟨x, rfl, hox, hq⟩
  have HNW1 := hid (HNW.out.below hq)
  clear HNW
  have HNW := HNW1
  obtain ⟨xa, xc, rfl, -⟩ := own_form hox
  have HOX := hid hox
  have s0 := cell_of_block (i := 0) HNW.out.b1 (v := .slice none 0 0) rfl
  have s1 := free_of_block (i := 0) HNW.out.b1
  clear hox hq
  go_wp2_with fail
  exact bodyPost_ret (v := .agg _) (results_cell_row rfl _ _ (w.heap.size + 1) 69 _ (0, 0) _ rfl (heap_setCell_same _ _ 0 _ _ (.slice xa zbs.length xc) HNW.out.b1) Tryz.underlying69 rfl (by kernel_rfl)) rfl
   ⟨_, rfl, by have := HEQ.out; unfold NdIs at this; rw [this]; exact nd_own hlt HOX.out _, HNW.out.B.setCell (p := ⟨w.heap.size + 1, 0, none⟩) (Nat.le_succ _) _⟩
 ·have HEQ := hid (show NdIs ns ⟨33, qa, qb, qc, n, m, si, sw, nm⟩ vs zcs from (nv33 rfl).trans (by
   simp only [Int.toNat_natCast]
   rw [HZAS.out, HA0.out, if_neg hone, HZCS.out]))
  go_wp2_with fail
  refine (c_l4Copy (B := w0.heap.size) w0 (Nat.le_refl _) (HZC.out.mono (by omega)) (by have := HZC.out.1; omega)).mono ?_
  rintro e w1 ⟨x, rfl, hox, hq⟩
  have HNW1 := hid (HNW.out.below hq)
  clear HNW
  have HNW := HNW1
  obtain ⟨xa, xc, rfl, -⟩ := own_form hox
  have HOX := hid hox
  have s0 := cell_of_block (i := 0) HNW.out.b1 (v := .slice none 0 0) rfl
  have s1 := free_of_block (i := 0) HNW.out.b1
  clear hox hq
  go_wp2_with fail
  exact bodyPost_ret (v := .agg _) (results_cell_row rfl _ _ (w.heap.size + 1) 69 _ (0, 0) _ rfl (heap_setCell_same _ _ 0 _ _ (.slice xa zcs.length xc) HNW.out.b1) Tryz.underlying69 rfl (by kernel_rfl)) rfl
   ⟨_, rfl, by have := HEQ.out; unfold NdIs at this; rw [this]; exact nd_own hlt HOX.out _, HNW.out.B.setCell (p := ⟨w.heap.size + 1, 0, none⟩) (Nat.le_succ _) _⟩
set_option maxHeartbeats 8000000 in
theorem c_l4Node29 {B : Nat} {a0' : Option Addr} {l0 p0 : Nat} {ns : List ND} {va : Option Addr} {vl vc : Nat} {vs : List (List Int)} (x : ND) (w : World) (hBw : B ≤ w.heap.size) (h : NodesAt B w a0' l0 p0 ns) (hv : ValsAt B w va vl vc vs) (hvl : vl ≤ l0) (hin : NodeIn vs vl x) (h1 : 1 ≤ pcN x.kind) (hs : ∀ i, i < vl → (vs.getD i []).length ≤ 4) (hres : ∀ z ∈ nodeVal ns x vs, fits z) (hk : x.kind = 29) :
  Calls Tryz.prog 87 #[.slice a0' l0 p0, .agg x.cells.toArray, .slice va vl vc] w (ValP (nodeVal ns x vs) w) := by
 obtain ⟨k0, pa, pb, pc, n, m, si, sw, nm⟩ := x
 simp only [ND.cells] at *
 subst hk
 have HN := hid h
 have HV := hid hv
 have HS := hid hs
 have hpa := hin.pa h1
 obtain ⟨bv, ov, rfl, hbv⟩ := vals_form hv (show 0 < vl by have := hpa.2.1; omega)
 obtain ⟨qa, la, ca, ba, oa, hqa, hqal, hla, hbaB, f_ha, hza, f_za⟩ := part_at hv hpa
 simp only at hqa
 subst hqa
 obtain ⟨nda, bn, on, hnda, rfl, hbn, hcn⟩ := kind_at h (show qa < l0 by omega)
 obtain ⟨-, -, -, -, -, -, -, d7, -⟩ := node_cells hcn
 obtain ⟨wa, hwa⟩ : ∃ wa, nda.sw = wa := ⟨_, rfl⟩
 rw [hwa] at d7
 have HWA := hid (show (sortAt ns (qa : Int)).2 = wa by unfold sortAt; rw [Int.toNat_natCast, hnda]; exact hwa)
 have hm : vl ≤ maxLen := hv.le
 have hm2 : l0 ≤ maxLen := Nat.le_trans h.2.1 h.2.2.1
 unfold maxLen at hm hm2
 have hlam := hs qa hqal
 have hlal : (vs.getD qa []).length = la := hza.1
 have hla4 : la ≤ 4 := by omega
 obtain ⟨zas, hzas⟩ : ∃ zs, vs.getD qa [] = zs := ⟨_, rfl⟩
 obtain ⟨a0, ha0⟩ : ∃ z, zas.getD 0 0 = z := ⟨_, rfl⟩
 rw [hzas, ha0] at f_za
 have HZAS := hid hzas
 have HA0 := hid ha0
 have HIN := hid hin
 have HRES := hid hres
 have hqai : (qa : Int) < vl := by omega
 have hqai2 : (qa : Int) < l0 := by omega
 clear h hv hs hpa hnda hcn hwa hza hlal hlam hzas ha0 hin hres
 go_enter Tryz.func87, Tryz.ntmps87
 go_upto_region 1 with fail
 refine code_gen (R := fun wb => NdV #[.int .i64 29, .int .i64 (qa : Int), .int .i64 pb, .int .i64 pc, .int .i64 n, .int .i64 m, .int .i64 si, .int .i64 sw, .string nm] w wb) (NdV.start _ _) ?_
 intro wv hnv
 have HNV := hid hnv
 have g1 := cell_of_block (i := 1) hnv.b0 (v := .int .i64 (qa : Int)) rfl
 have g2 := (hnv.B.cell (p := ⟨bv, ov + qa, none⟩) (by show bv < w.heap.size; omega)).trans f_ha
 clear hnv
 go_upto_region 2 with fail
 refine code_gen (R := fun wb => NdW #[.int .i64 29, .int .i64 (qa : Int), .int .i64 pb, .int .i64 pc, .int .i64 n, .int .i64 m, .int .i64 si, .int .i64 sw, .string nm] (.slice (some ⟨ba, oa, none⟩) la ca) w wb) (HNV.out.next _) ?_
 intro w0 hnw
 rw [HNV.out.sz]
 have g3 := cell_of_block (i := 1) hnw.b0 (v := .int .i64 (qa : Int)) rfl
 have g4 := (hnw.B.cell (p := ⟨bn, on + qa * 9 + 7, none⟩) (by show bn < w.heap.size; omega)).trans d7
 clear g1 g2 HNV
 go_upto_region 3 with fail
 clear g3 g4
 have HNW := hid hnw
 have hlt := hnw.lt
 have HV0 := hid (HV.out.below (hnw.B.mono hBw))
 have HN0 := hid (HN.out.rows.below (hnw.B.mono hBw)).nodes
 have f_n0 := cell_of_block (i := 0) hnw.b0 (v := .int .i64 29) rfl
 have f_n4 := cell_of_block (i := 4) hnw.b0 (v := .int .i64 n) rfl
 have f_n5 := cell_of_block (i := 5) hnw.b0 (v := .int .i64 m) rfl
 have f_A := cell_of_block (i := 0) hnw.b2 (v := .slice (some ⟨ba, oa, none⟩) la ca) rfl
 have r0 := cell_of_block (i := 0) hnw.b1 (v := .slice none 0 0) rfl
 have r1 := free_of_block (i := 0) hnw.b1
 have f_za0 := f_za
 replace f_za := (hnw.B.cell (p := ⟨ba, oa, none⟩) (by show ba < w.heap.size; omega)).trans f_za
 have hl0 : w.heap.size < w0.heap.size := by omega
 have hl2 : w.heap.size + 2 < w0.heap.size := hlt
 have hlba : ba < w0.heap.size := by omega
 have hlbv : bv < w0.heap.size := by omega
 have hlbn : bn < w0.heap.size := by omega
 have hzaI := hid (show IntsAt B w0 (some ⟨ba, oa, none⟩) la ca zas from by
  obtain ⟨a', l', c', b', o', e, -, hc', hz'⟩ := val_at HV0.out hqal
  injection e with e
  injection e with e1 e2
  subst e1; subst e2
  have := (hnw.B.cell (p := ⟨bv, ov + qa, none⟩) (by show bv < w.heap.size; omega)).trans f_ha
  rw [hc'] at this
  simp only [Option.some.injEq, Value.slice.injEq] at this
  obtain ⟨rfl, rfl, rfl⟩ := this
  rw [HZAS.out] at hz'
  exact hz')
 have HNW2 := hid (show w0.heap[w.heap.size]? = some (.cells #[.int .i64 29, .int .i64 (qa : Int), .int .i64 pb, .int .i64 pc, .int .i64 n, .int .i64 m, .int .i64 si, .int .i64 sw, .string nm] 111 (0, 0)) from hnw.b0)
 clear hnw f_ha d7 f_za0
 have hin := HIN.out
 have f_n2 := cell_of_block (i := 2) HNW2.out (v := .int .i64 pb) rfl
 obtain ⟨qb, lb, cb, bb, ob, hqb, hqbl, hlb, hbB, f_hb, hzb, f_zb⟩ := part_at HV0.out (hin.pb (by show 2 ≤ pcN 29; decide))
 simp only at hqb
 subst hqb
 have hlbb : bb < w0.heap.size := by omega
 obtain ⟨zbs, hzbs⟩ : ∃ zs, vs.getD qb [] = zs := ⟨_, rfl⟩
 have hlb4 : lb ≤ 4 := by have h1 := HS.out qb hqbl; have h2 := hzb.1; omega
 obtain ⟨b0, hb0⟩ : ∃ z, zbs.getD 0 0 = z := ⟨_, rfl⟩
 rw [hzbs] at hzb f_zb
 rw [hb0] at f_zb
 have HZBS := hid hzbs
 have HB0 := hid hb0
 have HZB := hid hzb
 have hqbi : (qb : Int) < vl := by omega
 have hqbi2 : (qb : Int) < l0 := by omega
 clear hin hzb hzbs hb0
 obtain ⟨ndb, bn', on', hndb, hbne, hbn', hcnb⟩ := kind_at HN0.out (show qb < l0 by omega)
 injection hbne with hbne
 injection hbne with e1 e2
 subst e1; subst e2
 obtain ⟨-, -, -, -, -, -, -, f_wb, -⟩ := node_cells hcnb
 obtain ⟨wb, hwb⟩ : ∃ wb, ndb.sw = wb := ⟨_, rfl⟩
 rw [hwb] at f_wb
 have HWB := hid (show (sortAt ns (qb : Int)).2 = wb by unfold sortAt; rw [Int.toNat_natCast, hndb]; exact hwb)
 clear hndb hcnb hwb
 have HEQ := hid (show NdIs ns ⟨29, qa, qb, pc, n, m, si, sw, nm⟩ vs [(joinR wa a0 wb b0).1] from (nv29 rfl).trans (by
  simp only [Int.toNat_natCast]
  rw [HZAS.out, HA0.out, HWA.out, HZBS.out, HB0.out, HWB.out]))
 go_upto_region 18 with fail
 refine wp_region_held_drew (S := (fun w' => w'.cell? ⟨w.heap.size + 2, 0, none⟩ = some (.slice (some ⟨ba, oa, none⟩) la ca) ∧ w'.cell? ⟨ba, oa, none⟩ = some (.int .i64 a0) ∧ w'.cell? ⟨w.heap.size, 2, none⟩ = some (.int .i64 (qb : Int)) ∧ w'.cell? ⟨bv, ov + qb, none⟩ = some (.slice (some ⟨bb, ob, none⟩) lb cb) ∧ w'.cell? ⟨bb, ob, none⟩ = some (.int .i64 b0) ∧ w'.cell? ⟨bn, on + qb * 9 + 7, none⟩ = some (.int .i64 wb))) (by kernel_rfl) ?_ (fun hHeld => ?_)
 ·first | exact ⟨f_A, f_za, f_n2, f_hb, f_zb, f_wb⟩ | exact ⟨keepc (by go_grown) hl2 f_A, keepc (by go_grown) hlba f_za, keepc (by go_grown) hl0 f_n2, keepc (by go_grown) hlbv f_hb, keepc (by go_grown) hlbb f_zb, keepc (by go_grown) hlbn f_wb⟩
 refine tL 0 (some 125) ?_
 refine tL 1 (some 126) ?_
 refine tL 2 (some 127) ?_
 refine tL 3 (some 128) ?_
 refine tL 4 (some 129) ?_
 refine tL 5 (some 130) ?_
 refine tL 6 (some 131) ?_
 refine tL 7 (some 132) ?_
 refine tL 8 (some 133) ?_
 refine tL 9 (some 134) ?_
 refine tL 10 (some 135) ?_
 refine tL 11 (some 136) ?_
 refine tL 12 (some 137) ?_
 refine tL 13 (some 138) ?_
 refine tL 14 (some 139) ?_
 refine tL 15 (some 140) ?_
 refine tL 16 (some 141) ?_
 refine tL 17 (some 142) ?_
 refine tL 18 (some 143) ?_
 refine tL 19 (some 144) ?_
 refine wpAnyH_ready (rs := [20]) (by kernel_rfl) (by simp) ?_
 refine .cons (o := _) rfl (fun K hK => ?_) .nil
 go_simp
 refine (c_WordJoinS wa a0 wb b0 _).mono ?_; rintro e w1 ⟨rfl, rfl⟩
 (try go_wp2_with fail)
 (try clear hHeld)
 refine hK.out _ _ ?_ (fun hHeld => ?_)
 ·first | exact ⟨f_A, f_za, f_n2, f_hb, f_zb, f_wb⟩ | exact ⟨keepc (by go_grown) hl2 f_A, keepc (by go_grown) hlba f_za, keepc (by go_grown) hl0 f_n2, keepc (by go_grown) hlbv f_hb, keepc (by go_grown) hlbb f_zb, keepc (by go_grown) hlbn f_wb⟩
 clear hK K
 (try simp only [Act.put, zq1, zq2, zq3])
 refine tL 21 (some 124) ?_
 refine tL 22 (some 146) ?_
 refine tL 23 (some 147) ?_
 refine tL 24 (some 148) ?_
 refine tL 25 (some 9) ?_
 refine wpAnyH_done (by kernel_rfl) ?_ _
 clear hHeld
 go_wp2_with fail
 refine (c_l4One (joinR wa a0 wb b0).1 (HRES.out _ (by rw [show nodeVal ns _ vs = _ from HEQ.out]; exact List.mem_singleton_self _)) _).mono ?_
 rintro e w1 ⟨x, rfl, hox, hq⟩
 have hb1 : Below w0.heap.size w0 w1 := ⟨hq.os, hq.tape, hq.output, hq.size, hq.block⟩
 have HNW1 := hid (HNW.out.below hb1)
 clear HNW
 have HNW := HNW1
 obtain ⟨xa, xc, rfl, -⟩ := own_form hox
 have HOX := hid (show w1.ownsInts w0.heap.size 3 .i64 (.slice xa [(joinR wa a0 wb b0).1].length xc) [(joinR wa a0 wb b0).1] from hox)
 have s0 := cell_of_block (i := 0) HNW.out.b1 (v := .slice none 0 0) rfl
 have s1 := free_of_block (i := 0) HNW.out.b1
 clear hox hq hb1 r0 r1
 go_wp2_with fail
 exact bodyPost_ret (v := .agg _) (results_cell_row rfl _ _ (w.heap.size + 1) 69 _ (0, 0) _ rfl (heap_setCell_same _ _ 0 _ _ (.slice xa [(joinR wa a0 wb b0).1].length xc) HNW.out.b1) Tryz.underlying69 rfl (by kernel_rfl)) rfl
  ⟨_, rfl, by have := HEQ.out; unfold NdIs at this; rw [this]; exact nd_own hlt HOX.out _, HNW.out.B.setCell (p := ⟨w.heap.size + 1, 0, none⟩) (Nat.le_succ _) _⟩
set_option maxHeartbeats 8000000 in
theorem c_l4Node30 {B : Nat} {a0' : Option Addr} {l0 p0 : Nat} {ns : List ND} {va : Option Addr} {vl vc : Nat} {vs : List (List Int)} (x : ND) (w : World) (hBw : B ≤ w.heap.size) (h : NodesAt B w a0' l0 p0 ns) (hv : ValsAt B w va vl vc vs) (hvl : vl ≤ l0) (hin : NodeIn vs vl x) (h1 : 1 ≤ pcN x.kind) (hs : ∀ i, i < vl → (vs.getD i []).length ≤ 4) (hres : ∀ z ∈ nodeVal ns x vs, fits z) (hk : x.kind = 30) :
  Calls Tryz.prog 87 #[.slice a0' l0 p0, .agg x.cells.toArray, .slice va vl vc] w (ValP (nodeVal ns x vs) w) := by
 obtain ⟨k0, pa, pb, pc, n, m, si, sw, nm⟩ := x
 simp only [ND.cells] at *
 subst hk
 have HN := hid h
 have HV := hid hv
 have HS := hid hs
 have hpa := hin.pa h1
 obtain ⟨bv, ov, rfl, hbv⟩ := vals_form hv (show 0 < vl by have := hpa.2.1; omega)
 obtain ⟨qa, la, ca, ba, oa, hqa, hqal, hla, hbaB, f_ha, hza, f_za⟩ := part_at hv hpa
 simp only at hqa
 subst hqa
 obtain ⟨nda, bn, on, hnda, rfl, hbn, hcn⟩ := kind_at h (show qa < l0 by omega)
 obtain ⟨-, -, -, -, -, -, -, d7, -⟩ := node_cells hcn
 obtain ⟨wa, hwa⟩ : ∃ wa, nda.sw = wa := ⟨_, rfl⟩
 rw [hwa] at d7
 have HWA := hid (show (sortAt ns (qa : Int)).2 = wa by unfold sortAt; rw [Int.toNat_natCast, hnda]; exact hwa)
 have hm : vl ≤ maxLen := hv.le
 have hm2 : l0 ≤ maxLen := Nat.le_trans h.2.1 h.2.2.1
 unfold maxLen at hm hm2
 have hlam := hs qa hqal
 have hlal : (vs.getD qa []).length = la := hza.1
 have hla4 : la ≤ 4 := by omega
 obtain ⟨zas, hzas⟩ : ∃ zs, vs.getD qa [] = zs := ⟨_, rfl⟩
 obtain ⟨a0, ha0⟩ : ∃ z, zas.getD 0 0 = z := ⟨_, rfl⟩
 rw [hzas, ha0] at f_za
 have HZAS := hid hzas
 have HA0 := hid ha0
 have HIN := hid hin
 have HRES := hid hres
 have hqai : (qa : Int) < vl := by omega
 have hqai2 : (qa : Int) < l0 := by omega
 clear h hv hs hpa hnda hcn hwa hza hlal hlam hzas ha0 hin hres
 go_enter Tryz.func87, Tryz.ntmps87
 go_upto_region 1 with fail
 refine code_gen (R := fun wb => NdV #[.int .i64 30, .int .i64 (qa : Int), .int .i64 pb, .int .i64 pc, .int .i64 n, .int .i64 m, .int .i64 si, .int .i64 sw, .string nm] w wb) (NdV.start _ _) ?_
 intro wv hnv
 have HNV := hid hnv
 have g1 := cell_of_block (i := 1) hnv.b0 (v := .int .i64 (qa : Int)) rfl
 have g2 := (hnv.B.cell (p := ⟨bv, ov + qa, none⟩) (by show bv < w.heap.size; omega)).trans f_ha
 clear hnv
 go_upto_region 2 with fail
 refine code_gen (R := fun wb => NdW #[.int .i64 30, .int .i64 (qa : Int), .int .i64 pb, .int .i64 pc, .int .i64 n, .int .i64 m, .int .i64 si, .int .i64 sw, .string nm] (.slice (some ⟨ba, oa, none⟩) la ca) w wb) (HNV.out.next _) ?_
 intro w0 hnw
 rw [HNV.out.sz]
 have g3 := cell_of_block (i := 1) hnw.b0 (v := .int .i64 (qa : Int)) rfl
 have g4 := (hnw.B.cell (p := ⟨bn, on + qa * 9 + 7, none⟩) (by show bn < w.heap.size; omega)).trans d7
 clear g1 g2 HNV
 go_upto_region 3 with fail
 clear g3 g4
 have HNW := hid hnw
 have hlt := hnw.lt
 have HV0 := hid (HV.out.below (hnw.B.mono hBw))
 have HN0 := hid (HN.out.rows.below (hnw.B.mono hBw)).nodes
 have f_n0 := cell_of_block (i := 0) hnw.b0 (v := .int .i64 30) rfl
 have f_n4 := cell_of_block (i := 4) hnw.b0 (v := .int .i64 n) rfl
 have f_n5 := cell_of_block (i := 5) hnw.b0 (v := .int .i64 m) rfl
 have f_A := cell_of_block (i := 0) hnw.b2 (v := .slice (some ⟨ba, oa, none⟩) la ca) rfl
 have r0 := cell_of_block (i := 0) hnw.b1 (v := .slice none 0 0) rfl
 have r1 := free_of_block (i := 0) hnw.b1
 have f_za0 := f_za
 replace f_za := (hnw.B.cell (p := ⟨ba, oa, none⟩) (by show ba < w.heap.size; omega)).trans f_za
 have hl0 : w.heap.size < w0.heap.size := by omega
 have hl2 : w.heap.size + 2 < w0.heap.size := hlt
 have hlba : ba < w0.heap.size := by omega
 have hlbv : bv < w0.heap.size := by omega
 have hlbn : bn < w0.heap.size := by omega
 have hzaI := hid (show IntsAt B w0 (some ⟨ba, oa, none⟩) la ca zas from by
  obtain ⟨a', l', c', b', o', e, -, hc', hz'⟩ := val_at HV0.out hqal
  injection e with e
  injection e with e1 e2
  subst e1; subst e2
  have := (hnw.B.cell (p := ⟨bv, ov + qa, none⟩) (by show bv < w.heap.size; omega)).trans f_ha
  rw [hc'] at this
  simp only [Option.some.injEq, Value.slice.injEq] at this
  obtain ⟨rfl, rfl, rfl⟩ := this
  rw [HZAS.out] at hz'
  exact hz')
 have HNW2 := hid (show w0.heap[w.heap.size]? = some (.cells #[.int .i64 30, .int .i64 (qa : Int), .int .i64 pb, .int .i64 pc, .int .i64 n, .int .i64 m, .int .i64 si, .int .i64 sw, .string nm] 111 (0, 0)) from hnw.b0)
 clear hnw f_ha d7 f_za0
 have HEQ := hid (show NdIs ns ⟨30, qa, pb, pc, n, m, si, sw, nm⟩ vs [(sliceR wa a0 n m).1] from (nv30 rfl).trans (by
  simp only [Int.toNat_natCast]
  rw [HZAS.out, HA0.out, HWA.out]))
 go_upto_region 20 with fail
 refine wp_region_held_drew (S := (fun w' => w'.cell? ⟨w.heap.size + 2, 0, none⟩ = some (.slice (some ⟨ba, oa, none⟩) la ca) ∧ w'.cell? ⟨ba, oa, none⟩ = some (.int .i64 a0) ∧ w'.cell? ⟨w.heap.size, 4, none⟩ = some (.int .i64 n) ∧ w'.cell? ⟨w.heap.size, 5, none⟩ = some (.int .i64 m))) (by kernel_rfl) ?_ (fun hHeld => ?_)
 ·first | exact ⟨f_A, f_za, f_n4, f_n5⟩ | exact ⟨keepc (by go_grown) hl2 f_A, keepc (by go_grown) hlba f_za, keepc (by go_grown) hl0 f_n4, keepc (by go_grown) hl0 f_n5⟩
 refine tL 0 (some 154) ?_
 refine tL 1 (some 155) ?_
 refine tL 2 (some 156) ?_
 refine tL 3 (some 157) ?_
 refine tL 4 (some 158) ?_
 refine tL 5 (some 159) ?_
 refine tL 6 (some 160) ?_
 refine tL 7 (some 161) ?_
 refine tL 8 (some 162) ?_
 refine wpAnyH_ready (rs := [9]) (by kernel_rfl) (by simp) ?_
 refine .cons (o := _) rfl (fun K hK => ?_) .nil
 go_simp
 refine (c_WordSliceS wa a0 n m _).mono ?_; rintro e w1 ⟨rfl, rfl⟩
 (try go_wp2_with fail)
 (try clear hHeld)
 refine hK.out _ _ ?_ (fun hHeld => ?_)
 ·first | exact ⟨f_A, f_za, f_n4, f_n5⟩ | exact ⟨keepc (by go_grown) hl2 f_A, keepc (by go_grown) hlba f_za, keepc (by go_grown) hl0 f_n4, keepc (by go_grown) hl0 f_n5⟩
 clear hK K
 (try simp only [Act.put, zq1, zq2, zq3])
 refine tL 10 (some 153) ?_
 refine tL 11 (some 164) ?_
 refine tL 12 (some 165) ?_
 refine tL 13 (some 166) ?_
 refine tL 14 (some 9) ?_
 refine wpAnyH_done (by kernel_rfl) ?_ _
 clear hHeld
 go_wp2_with fail
 refine (c_l4One (sliceR wa a0 n m).1 (HRES.out _ (by rw [show nodeVal ns _ vs = _ from HEQ.out]; exact List.mem_singleton_self _)) _).mono ?_
 rintro e w1 ⟨x, rfl, hox, hq⟩
 have hb1 : Below w0.heap.size w0 w1 := ⟨hq.os, hq.tape, hq.output, hq.size, hq.block⟩
 have HNW1 := hid (HNW.out.below hb1)
 clear HNW
 have HNW := HNW1
 obtain ⟨xa, xc, rfl, -⟩ := own_form hox
 have HOX := hid (show w1.ownsInts w0.heap.size 3 .i64 (.slice xa [(sliceR wa a0 n m).1].length xc) [(sliceR wa a0 n m).1] from hox)
 have s0 := cell_of_block (i := 0) HNW.out.b1 (v := .slice none 0 0) rfl
 have s1 := free_of_block (i := 0) HNW.out.b1
 clear hox hq hb1 r0 r1
 go_wp2_with fail
 exact bodyPost_ret (v := .agg _) (results_cell_row rfl _ _ (w.heap.size + 1) 69 _ (0, 0) _ rfl (heap_setCell_same _ _ 0 _ _ (.slice xa [(sliceR wa a0 n m).1].length xc) HNW.out.b1) Tryz.underlying69 rfl (by kernel_rfl)) rfl
  ⟨_, rfl, by have := HEQ.out; unfold NdIs at this; rw [this]; exact nd_own hlt HOX.out _, HNW.out.B.setCell (p := ⟨w.heap.size + 1, 0, none⟩) (Nat.le_succ _) _⟩
set_option maxHeartbeats 8000000 in
theorem c_l4Node31 {B : Nat} {a0' : Option Addr} {l0 p0 : Nat} {ns : List ND} {va : Option Addr} {vl vc : Nat} {vs : List (List Int)} (x : ND) (w : World) (hBw : B ≤ w.heap.size) (h : NodesAt B w a0' l0 p0 ns) (hv : ValsAt B w va vl vc vs) (hvl : vl ≤ l0) (hin : NodeIn vs vl x) (h1 : 1 ≤ pcN x.kind) (hs : ∀ i, i < vl → (vs.getD i []).length ≤ 4) (hres : ∀ z ∈ nodeVal ns x vs, fits z) (hk : x.kind = 31) :
  Calls Tryz.prog 87 #[.slice a0' l0 p0, .agg x.cells.toArray, .slice va vl vc] w (ValP (nodeVal ns x vs) w) := by
 obtain ⟨k0, pa, pb, pc, n, m, si, sw, nm⟩ := x
 simp only [ND.cells] at *
 subst hk
 have HN := hid h
 have HV := hid hv
 have HS := hid hs
 have hpa := hin.pa h1
 obtain ⟨bv, ov, rfl, hbv⟩ := vals_form hv (show 0 < vl by have := hpa.2.1; omega)
 obtain ⟨qa, la, ca, ba, oa, hqa, hqal, hla, hbaB, f_ha, hza, f_za⟩ := part_at hv hpa
 simp only at hqa
 subst hqa
 obtain ⟨nda, bn, on, hnda, rfl, hbn, hcn⟩ := kind_at h (show qa < l0 by omega)
 obtain ⟨-, -, -, -, -, -, -, d7, -⟩ := node_cells hcn
 obtain ⟨wa, hwa⟩ : ∃ wa, nda.sw = wa := ⟨_, rfl⟩
 rw [hwa] at d7
 have HWA := hid (show (sortAt ns (qa : Int)).2 = wa by unfold sortAt; rw [Int.toNat_natCast, hnda]; exact hwa)
 have hm : vl ≤ maxLen := hv.le
 have hm2 : l0 ≤ maxLen := Nat.le_trans h.2.1 h.2.2.1
 unfold maxLen at hm hm2
 have hlam := hs qa hqal
 have hlal : (vs.getD qa []).length = la := hza.1
 have hla4 : la ≤ 4 := by omega
 obtain ⟨zas, hzas⟩ : ∃ zs, vs.getD qa [] = zs := ⟨_, rfl⟩
 obtain ⟨a0, ha0⟩ : ∃ z, zas.getD 0 0 = z := ⟨_, rfl⟩
 rw [hzas, ha0] at f_za
 have HZAS := hid hzas
 have HA0 := hid ha0
 have HIN := hid hin
 have HRES := hid hres
 have hqai : (qa : Int) < vl := by omega
 have hqai2 : (qa : Int) < l0 := by omega
 clear h hv hs hpa hnda hcn hwa hza hlal hlam hzas ha0 hin hres
 go_enter Tryz.func87, Tryz.ntmps87
 go_upto_region 1 with fail
 refine code_gen (R := fun wb => NdV #[.int .i64 31, .int .i64 (qa : Int), .int .i64 pb, .int .i64 pc, .int .i64 n, .int .i64 m, .int .i64 si, .int .i64 sw, .string nm] w wb) (NdV.start _ _) ?_
 intro wv hnv
 have HNV := hid hnv
 have g1 := cell_of_block (i := 1) hnv.b0 (v := .int .i64 (qa : Int)) rfl
 have g2 := (hnv.B.cell (p := ⟨bv, ov + qa, none⟩) (by show bv < w.heap.size; omega)).trans f_ha
 clear hnv
 go_upto_region 2 with fail
 refine code_gen (R := fun wb => NdW #[.int .i64 31, .int .i64 (qa : Int), .int .i64 pb, .int .i64 pc, .int .i64 n, .int .i64 m, .int .i64 si, .int .i64 sw, .string nm] (.slice (some ⟨ba, oa, none⟩) la ca) w wb) (HNV.out.next _) ?_
 intro w0 hnw
 rw [HNV.out.sz]
 have g3 := cell_of_block (i := 1) hnw.b0 (v := .int .i64 (qa : Int)) rfl
 have g4 := (hnw.B.cell (p := ⟨bn, on + qa * 9 + 7, none⟩) (by show bn < w.heap.size; omega)).trans d7
 clear g1 g2 HNV
 go_upto_region 3 with fail
 clear g3 g4
 have HNW := hid hnw
 have hlt := hnw.lt
 have HV0 := hid (HV.out.below (hnw.B.mono hBw))
 have HN0 := hid (HN.out.rows.below (hnw.B.mono hBw)).nodes
 have f_n0 := cell_of_block (i := 0) hnw.b0 (v := .int .i64 31) rfl
 have f_n4 := cell_of_block (i := 4) hnw.b0 (v := .int .i64 n) rfl
 have f_n5 := cell_of_block (i := 5) hnw.b0 (v := .int .i64 m) rfl
 have f_A := cell_of_block (i := 0) hnw.b2 (v := .slice (some ⟨ba, oa, none⟩) la ca) rfl
 have r0 := cell_of_block (i := 0) hnw.b1 (v := .slice none 0 0) rfl
 have r1 := free_of_block (i := 0) hnw.b1
 have f_za0 := f_za
 replace f_za := (hnw.B.cell (p := ⟨ba, oa, none⟩) (by show ba < w.heap.size; omega)).trans f_za
 have hl0 : w.heap.size < w0.heap.size := by omega
 have hl2 : w.heap.size + 2 < w0.heap.size := hlt
 have hlba : ba < w0.heap.size := by omega
 have hlbv : bv < w0.heap.size := by omega
 have hlbn : bn < w0.heap.size := by omega
 have hzaI := hid (show IntsAt B w0 (some ⟨ba, oa, none⟩) la ca zas from by
  obtain ⟨a', l', c', b', o', e, -, hc', hz'⟩ := val_at HV0.out hqal
  injection e with e
  injection e with e1 e2
  subst e1; subst e2
  have := (hnw.B.cell (p := ⟨bv, ov + qa, none⟩) (by show bv < w.heap.size; omega)).trans f_ha
  rw [hc'] at this
  simp only [Option.some.injEq, Value.slice.injEq] at this
  obtain ⟨rfl, rfl, rfl⟩ := this
  rw [HZAS.out] at hz'
  exact hz')
 have HNW2 := hid (show w0.heap[w.heap.size]? = some (.cells #[.int .i64 31, .int .i64 (qa : Int), .int .i64 pb, .int .i64 pc, .int .i64 n, .int .i64 m, .int .i64 si, .int .i64 sw, .string nm] 111 (0, 0)) from hnw.b0)
 clear hnw f_ha d7 f_za0
 have HEQ := hid (show NdIs ns ⟨31, qa, pb, pc, n, m, si, sw, nm⟩ vs [(growR wa a0 n false).1] from (nv31 (.inl rfl)).trans (by
  simp only [Int.toNat_natCast]
  rw [HZAS.out, HA0.out, HWA.out]; rfl))
 go_upto_region 22 with fail
 refine wp_region_held_drew (S := (fun w' => w'.cell? ⟨w.heap.size + 2, 0, none⟩ = some (.slice (some ⟨ba, oa, none⟩) la ca) ∧ w'.cell? ⟨ba, oa, none⟩ = some (.int .i64 a0) ∧ w'.cell? ⟨w.heap.size, 4, none⟩ = some (.int .i64 n) ∧ w'.cell? ⟨w.heap.size, 0, none⟩ = some (.int .i64 31))) (by kernel_rfl) ?_ (fun hHeld => ?_)
 ·first | exact ⟨f_A, f_za, f_n4, f_n0⟩ | exact ⟨keepc (by go_grown) hl2 f_A, keepc (by go_grown) hlba f_za, keepc (by go_grown) hl0 f_n4, keepc (by go_grown) hl0 f_n0⟩
 refine tL 0 (some 177) ?_
 refine tL 1 (some 178) ?_
 refine tL 2 (some 179) ?_
 refine tL 3 (some 180) ?_
 refine tL 4 (some 181) ?_
 refine tL 5 (some 182) ?_
 refine tL 6 (some 183) ?_
 refine tL 7 (some 184) ?_
 refine tL 8 (some 185) ?_
 refine tL 9 (some 186) ?_
 refine wpAnyH_ready (rs := [10]) (by kernel_rfl) (by simp) ?_
 refine .cons (o := _) rfl (fun K hK => ?_) .nil
 go_simp
 refine (c_WordGrowS wa a0 n false _).mono ?_; rintro e w1 ⟨rfl, rfl⟩
 (try go_wp2_with fail)
 (try clear hHeld)
 refine hK.out _ _ ?_ (fun hHeld => ?_)
 ·first | exact ⟨f_A, f_za, f_n4, f_n0⟩ | exact ⟨keepc (by go_grown) hl2 f_A, keepc (by go_grown) hlba f_za, keepc (by go_grown) hl0 f_n4, keepc (by go_grown) hl0 f_n0⟩
 clear hK K
 (try simp only [Act.put, zq1, zq2, zq3])
 refine tL 11 (some 176) ?_
 refine tL 12 (some 188) ?_
 refine tL 13 (some 189) ?_
 refine tL 14 (some 190) ?_
 refine tL 15 (some 9) ?_
 refine wpAnyH_done (by kernel_rfl) ?_ _
 clear hHeld
 go_wp2_with fail
 refine (c_l4One (growR wa a0 n false).1 (HRES.out _ (by rw [show nodeVal ns _ vs = _ from HEQ.out]; exact List.mem_singleton_self _)) _).mono ?_
 rintro e w1 ⟨x, rfl, hox, hq⟩
 have hb1 : Below w0.heap.size w0 w1 := ⟨hq.os, hq.tape, hq.output, hq.size, hq.block⟩
 have HNW1 := hid (HNW.out.below hb1)
 clear HNW
 have HNW := HNW1
 obtain ⟨xa, xc, rfl, -⟩ := own_form hox
 have HOX := hid (show w1.ownsInts w0.heap.size 3 .i64 (.slice xa [(growR wa a0 n false).1].length xc) [(growR wa a0 n false).1] from hox)
 have s0 := cell_of_block (i := 0) HNW.out.b1 (v := .slice none 0 0) rfl
 have s1 := free_of_block (i := 0) HNW.out.b1
 clear hox hq hb1 r0 r1
 go_wp2_with fail
 exact bodyPost_ret (v := .agg _) (results_cell_row rfl _ _ (w.heap.size + 1) 69 _ (0, 0) _ rfl (heap_setCell_same _ _ 0 _ _ (.slice xa [(growR wa a0 n false).1].length xc) HNW.out.b1) Tryz.underlying69 rfl (by kernel_rfl)) rfl
  ⟨_, rfl, by have := HEQ.out; unfold NdIs at this; rw [this]; exact nd_own hlt HOX.out _, HNW.out.B.setCell (p := ⟨w.heap.size + 1, 0, none⟩) (Nat.le_succ _) _⟩
set_option maxHeartbeats 8000000 in
theorem c_l4Node32 {B : Nat} {a0' : Option Addr} {l0 p0 : Nat} {ns : List ND} {va : Option Addr} {vl vc : Nat} {vs : List (List Int)} (x : ND) (w : World) (hBw : B ≤ w.heap.size) (h : NodesAt B w a0' l0 p0 ns) (hv : ValsAt B w va vl vc vs) (hvl : vl ≤ l0) (hin : NodeIn vs vl x) (h1 : 1 ≤ pcN x.kind) (hs : ∀ i, i < vl → (vs.getD i []).length ≤ 4) (hres : ∀ z ∈ nodeVal ns x vs, fits z) (hk : x.kind = 32) :
  Calls Tryz.prog 87 #[.slice a0' l0 p0, .agg x.cells.toArray, .slice va vl vc] w (ValP (nodeVal ns x vs) w) := by
 obtain ⟨k0, pa, pb, pc, n, m, si, sw, nm⟩ := x
 simp only [ND.cells] at *
 subst hk
 have HN := hid h
 have HV := hid hv
 have HS := hid hs
 have hpa := hin.pa h1
 obtain ⟨bv, ov, rfl, hbv⟩ := vals_form hv (show 0 < vl by have := hpa.2.1; omega)
 obtain ⟨qa, la, ca, ba, oa, hqa, hqal, hla, hbaB, f_ha, hza, f_za⟩ := part_at hv hpa
 simp only at hqa
 subst hqa
 obtain ⟨nda, bn, on, hnda, rfl, hbn, hcn⟩ := kind_at h (show qa < l0 by omega)
 obtain ⟨-, -, -, -, -, -, -, d7, -⟩ := node_cells hcn
 obtain ⟨wa, hwa⟩ : ∃ wa, nda.sw = wa := ⟨_, rfl⟩
 rw [hwa] at d7
 have HWA := hid (show (sortAt ns (qa : Int)).2 = wa by unfold sortAt; rw [Int.toNat_natCast, hnda]; exact hwa)
 have hm : vl ≤ maxLen := hv.le
 have hm2 : l0 ≤ maxLen := Nat.le_trans h.2.1 h.2.2.1
 unfold maxLen at hm hm2
 have hlam := hs qa hqal
 have hlal : (vs.getD qa []).length = la := hza.1
 have hla4 : la ≤ 4 := by omega
 obtain ⟨zas, hzas⟩ : ∃ zs, vs.getD qa [] = zs := ⟨_, rfl⟩
 obtain ⟨a0, ha0⟩ : ∃ z, zas.getD 0 0 = z := ⟨_, rfl⟩
 rw [hzas, ha0] at f_za
 have HZAS := hid hzas
 have HA0 := hid ha0
 have HIN := hid hin
 have HRES := hid hres
 have hqai : (qa : Int) < vl := by omega
 have hqai2 : (qa : Int) < l0 := by omega
 clear h hv hs hpa hnda hcn hwa hza hlal hlam hzas ha0 hin hres
 go_enter Tryz.func87, Tryz.ntmps87
 go_upto_region 1 with fail
 refine code_gen (R := fun wb => NdV #[.int .i64 32, .int .i64 (qa : Int), .int .i64 pb, .int .i64 pc, .int .i64 n, .int .i64 m, .int .i64 si, .int .i64 sw, .string nm] w wb) (NdV.start _ _) ?_
 intro wv hnv
 have HNV := hid hnv
 have g1 := cell_of_block (i := 1) hnv.b0 (v := .int .i64 (qa : Int)) rfl
 have g2 := (hnv.B.cell (p := ⟨bv, ov + qa, none⟩) (by show bv < w.heap.size; omega)).trans f_ha
 clear hnv
 go_upto_region 2 with fail
 refine code_gen (R := fun wb => NdW #[.int .i64 32, .int .i64 (qa : Int), .int .i64 pb, .int .i64 pc, .int .i64 n, .int .i64 m, .int .i64 si, .int .i64 sw, .string nm] (.slice (some ⟨ba, oa, none⟩) la ca) w wb) (HNV.out.next _) ?_
 intro w0 hnw
 rw [HNV.out.sz]
 have g3 := cell_of_block (i := 1) hnw.b0 (v := .int .i64 (qa : Int)) rfl
 have g4 := (hnw.B.cell (p := ⟨bn, on + qa * 9 + 7, none⟩) (by show bn < w.heap.size; omega)).trans d7
 clear g1 g2 HNV
 go_upto_region 3 with fail
 clear g3 g4
 have HNW := hid hnw
 have hlt := hnw.lt
 have HV0 := hid (HV.out.below (hnw.B.mono hBw))
 have HN0 := hid (HN.out.rows.below (hnw.B.mono hBw)).nodes
 have f_n0 := cell_of_block (i := 0) hnw.b0 (v := .int .i64 32) rfl
 have f_n4 := cell_of_block (i := 4) hnw.b0 (v := .int .i64 n) rfl
 have f_n5 := cell_of_block (i := 5) hnw.b0 (v := .int .i64 m) rfl
 have f_A := cell_of_block (i := 0) hnw.b2 (v := .slice (some ⟨ba, oa, none⟩) la ca) rfl
 have r0 := cell_of_block (i := 0) hnw.b1 (v := .slice none 0 0) rfl
 have r1 := free_of_block (i := 0) hnw.b1
 have f_za0 := f_za
 replace f_za := (hnw.B.cell (p := ⟨ba, oa, none⟩) (by show ba < w.heap.size; omega)).trans f_za
 have hl0 : w.heap.size < w0.heap.size := by omega
 have hl2 : w.heap.size + 2 < w0.heap.size := hlt
 have hlba : ba < w0.heap.size := by omega
 have hlbv : bv < w0.heap.size := by omega
 have hlbn : bn < w0.heap.size := by omega
 have hzaI := hid (show IntsAt B w0 (some ⟨ba, oa, none⟩) la ca zas from by
  obtain ⟨a', l', c', b', o', e, -, hc', hz'⟩ := val_at HV0.out hqal
  injection e with e
  injection e with e1 e2
  subst e1; subst e2
  have := (hnw.B.cell (p := ⟨bv, ov + qa, none⟩) (by show bv < w.heap.size; omega)).trans f_ha
  rw [hc'] at this
  simp only [Option.some.injEq, Value.slice.injEq] at this
  obtain ⟨rfl, rfl, rfl⟩ := this
  rw [HZAS.out] at hz'
  exact hz')
 have HNW2 := hid (show w0.heap[w.heap.size]? = some (.cells #[.int .i64 32, .int .i64 (qa : Int), .int .i64 pb, .int .i64 pc, .int .i64 n, .int .i64 m, .int .i64 si, .int .i64 sw, .string nm] 111 (0, 0)) from hnw.b0)
 clear hnw f_ha d7 f_za0
 have HEQ := hid (show NdIs ns ⟨32, qa, pb, pc, n, m, si, sw, nm⟩ vs [(growR wa a0 n true).1] from (nv31 (.inr rfl)).trans (by
  simp only [Int.toNat_natCast]
  rw [HZAS.out, HA0.out, HWA.out]; rfl))
 go_upto_region 22 with fail
 refine wp_region_held_drew (S := (fun w' => w'.cell? ⟨w.heap.size + 2, 0, none⟩ = some (.slice (some ⟨ba, oa, none⟩) la ca) ∧ w'.cell? ⟨ba, oa, none⟩ = some (.int .i64 a0) ∧ w'.cell? ⟨w.heap.size, 4, none⟩ = some (.int .i64 n) ∧ w'.cell? ⟨w.heap.size, 0, none⟩ = some (.int .i64 32))) (by kernel_rfl) ?_ (fun hHeld => ?_)
 ·first | exact ⟨f_A, f_za, f_n4, f_n0⟩ | exact ⟨keepc (by go_grown) hl2 f_A, keepc (by go_grown) hlba f_za, keepc (by go_grown) hl0 f_n4, keepc (by go_grown) hl0 f_n0⟩
 refine tL 0 (some 177) ?_
 refine tL 1 (some 178) ?_
 refine tL 2 (some 179) ?_
 refine tL 3 (some 180) ?_
 refine tL 4 (some 181) ?_
 refine tL 5 (some 182) ?_
 refine tL 6 (some 183) ?_
 refine tL 7 (some 184) ?_
 refine tL 8 (some 185) ?_
 refine tL 9 (some 186) ?_
 refine wpAnyH_ready (rs := [10]) (by kernel_rfl) (by simp) ?_
 refine .cons (o := _) rfl (fun K hK => ?_) .nil
 go_simp
 refine (c_WordGrowS wa a0 n true _).mono ?_; rintro e w1 ⟨rfl, rfl⟩
 (try go_wp2_with fail)
 (try clear hHeld)
 refine hK.out _ _ ?_ (fun hHeld => ?_)
 ·first | exact ⟨f_A, f_za, f_n4, f_n0⟩ | exact ⟨keepc (by go_grown) hl2 f_A, keepc (by go_grown) hlba f_za, keepc (by go_grown) hl0 f_n4, keepc (by go_grown) hl0 f_n0⟩
 clear hK K
 (try simp only [Act.put, zq1, zq2, zq3])
 refine tL 11 (some 176) ?_
 refine tL 12 (some 188) ?_
 refine tL 13 (some 189) ?_
 refine tL 14 (some 190) ?_
 refine tL 15 (some 9) ?_
 refine wpAnyH_done (by kernel_rfl) ?_ _
 clear hHeld
 go_wp2_with fail
 refine (c_l4One (growR wa a0 n true).1 (HRES.out _ (by rw [show nodeVal ns _ vs = _ from HEQ.out]; exact List.mem_singleton_self _)) _).mono ?_
 rintro e w1 ⟨x, rfl, hox, hq⟩
 have hb1 : Below w0.heap.size w0 w1 := ⟨hq.os, hq.tape, hq.output, hq.size, hq.block⟩
 have HNW1 := hid (HNW.out.below hb1)
 clear HNW
 have HNW := HNW1
 obtain ⟨xa, xc, rfl, -⟩ := own_form hox
 have HOX := hid (show w1.ownsInts w0.heap.size 3 .i64 (.slice xa [(growR wa a0 n true).1].length xc) [(growR wa a0 n true).1] from hox)
 have s0 := cell_of_block (i := 0) HNW.out.b1 (v := .slice none 0 0) rfl
 have s1 := free_of_block (i := 0) HNW.out.b1
 clear hox hq hb1 r0 r1
 go_wp2_with fail
 exact bodyPost_ret (v := .agg _) (results_cell_row rfl _ _ (w.heap.size + 1) 69 _ (0, 0) _ rfl (heap_setCell_same _ _ 0 _ _ (.slice xa [(growR wa a0 n true).1].length xc) HNW.out.b1) Tryz.underlying69 rfl (by kernel_rfl)) rfl
  ⟨_, rfl, by have := HEQ.out; unfold NdIs at this; rw [this]; exact nd_own hlt HOX.out _, HNW.out.B.setCell (p := ⟨w.heap.size + 1, 0, none⟩) (Nat.le_succ _) _⟩
end Go.Proofs.YtlcgimadbpagfaaGreat
