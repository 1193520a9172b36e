/-
  Parts: EvN2, shortened.
-/
import Derived.Test.YtlcgimadbpagfaaGreatZEvN
namespace Go.Proofs.YtlcgimadbpagfaaGreat
open Go.Lib
open Go.ChangeShapes Go.WideShapes Go.ChangeAt Go.RowKit Go.Maps
set_option linter.unusedVariables false
set_option maxRecDepth 100000
set_option maxHeartbeats 8000000 in
theorem c_l4Nodeone {B : Nat} {a0' : Option Addr} {l0 p0 : Nat} {ns : List ND} {va : Option Addr} {vl vc : Nat} {vs : List (List Int)} (x : ND) (w : World) (hBw : B ≤ w.heap.size) (h : NodesAt B w a0' l0 p0 ns) (hv : ValsAt B w va vl vc vs) (hvl : vl ≤ l0) (hin : NodeIn vs vl x) (h1 : 1 ≤ pcN x.kind) (hs : ∀ i, i < vl → (vs.getD i []).length ≤ 4) (hres : ∀ z ∈ nodeVal ns x vs, fits z) (hk : 1 ≤ x.kind ∧ x.kind ≤ 5) :
  Calls Tryz.prog 87 #[.slice a0' l0 p0, .agg x.cells.toArray, .slice va vl vc] w (ValP (nodeVal ns x vs) w) := by
 obtain ⟨k0, pa, pb, pc, n, m, si, sw, nm⟩ := x
 simp only [ND.cells] at *
 have HN := hid h
 have HV := hid hv
 have HS := hid hs
 have hpa := hin.pa h1
 obtain ⟨bv, ov, rfl, hbv⟩ := vals_form hv (show 0 < vl by have := hpa.2.1; omega)
 obtain ⟨qa, la, ca, ba, oa, hqa, hqal, hla, hbaB, f_ha, hza, f_za⟩ := part_at hv hpa
 simp only at hqa
 subst hqa
 obtain ⟨nda, bn, on, hnda, rfl, hbn, hcn⟩ := kind_at h (show qa < l0 by omega)
 obtain ⟨-, -, -, -, -, -, -, d7, -⟩ := node_cells hcn
 obtain ⟨wa, hwa⟩ : ∃ wa, nda.sw = wa := ⟨_, rfl⟩
 rw [hwa] at d7
 have HWA := hid (show (sortAt ns (qa : Int)).2 = wa by unfold sortAt; rw [Int.toNat_natCast, hnda]; exact hwa)
 have hm : vl ≤ maxLen := hv.le
 have hm2 : l0 ≤ maxLen := Nat.le_trans h.2.1 h.2.2.1
 unfold maxLen at hm hm2
 have hlam := hs qa hqal
 have hlal : (vs.getD qa []).length = la := hza.1
 have hla4 : la ≤ 4 := by omega
 obtain ⟨zas, hzas⟩ : ∃ zs, vs.getD qa [] = zs := ⟨_, rfl⟩
 obtain ⟨a0, ha0⟩ : ∃ z, zas.getD 0 0 = z := ⟨_, rfl⟩
 rw [hzas, ha0] at f_za
 have HZAS := hid hzas
 have HA0 := hid ha0
 have HIN := hid hin
 have HRES := hid hres
 have hqai : (qa : Int) < vl := by omega
 have hqai2 : (qa : Int) < l0 := by omega
 clear h hv hs hpa hnda hcn hwa hza hlal hlam hzas ha0 hin hres
 go_enter Tryz.func87, Tryz.ntmps87
 go_upto_region 1 with fail
 refine code_gen (R := fun wb => NdV #[.int .i64 k0, .int .i64 (qa : Int), .int .i64 pb, .int .i64 pc, .int .i64 n, .int .i64 m, .int .i64 si, .int .i64 sw, .string nm] w wb) (NdV.start _ _) ?_
 intro wv hnv
 have HNV := hid hnv
 have g1 := cell_of_block (i := 1) hnv.b0 (v := .int .i64 (qa : Int)) rfl
 have g2 := (hnv.B.cell (p := ⟨bv, ov + qa, none⟩) (by show bv < w.heap.size; omega)).trans f_ha
 clear hnv
 go_upto_region 2 with fail
 refine code_gen (R := fun wb => NdW #[.int .i64 k0, .int .i64 (qa : Int), .int .i64 pb, .int .i64 pc, .int .i64 n, .int .i64 m, .int .i64 si, .int .i64 sw, .string nm] (.slice (some ⟨ba, oa, none⟩) la ca) w wb) (HNV.out.next _) ?_
 intro w0 hnw
 rw [HNV.out.sz]
 have g3 := cell_of_block (i := 1) hnw.b0 (v := .int .i64 (qa : Int)) rfl
 have g4 := (hnw.B.cell (p := ⟨bn, on + qa * 9 + 7, none⟩) (by show bn < w.heap.size; omega)).trans d7
 clear g1 g2 HNV
 go_upto_region 3 with fail
 clear g3 g4
 have HNW := hid hnw
 have hlt := hnw.lt
 have HV0 := hid (HV.out.below (hnw.B.mono hBw))
 have HN0 := hid (HN.out.rows.below (hnw.B.mono hBw)).nodes
 have f_n0 := cell_of_block (i := 0) hnw.b0 (v := .int .i64 k0) rfl
 have f_n4 := cell_of_block (i := 4) hnw.b0 (v := .int .i64 n) rfl
 have f_n5 := cell_of_block (i := 5) hnw.b0 (v := .int .i64 m) rfl
 have f_A := cell_of_block (i := 0) hnw.b2 (v := .slice (some ⟨ba, oa, none⟩) la ca) rfl
 have r0 := cell_of_block (i := 0) hnw.b1 (v := .slice none 0 0) rfl
 have r1 := free_of_block (i := 0) hnw.b1
 have f_za0 := f_za
 replace f_za := (hnw.B.cell (p := ⟨ba, oa, none⟩) (by show ba < w.heap.size; omega)).trans f_za
 have hl0 : w.heap.size < w0.heap.size := by omega
 have hl2 : w.heap.size + 2 < w0.heap.size := hlt
 have hlba : ba < w0.heap.size := by omega
 have hlbv : bv < w0.heap.size := by omega
 have hlbn : bn < w0.heap.size := by omega
 have hzaI := hid (show IntsAt B w0 (some ⟨ba, oa, none⟩) la ca zas from by
  obtain ⟨a', l', c', b', o', e, -, hc', hz'⟩ := val_at HV0.out hqal
  injection e with e
  injection e with e1 e2
  subst e1; subst e2
  have := (hnw.B.cell (p := ⟨bv, ov + qa, none⟩) (by show bv < w.heap.size; omega)).trans f_ha
  rw [hc'] at this
  simp only [Option.some.injEq, Value.slice.injEq] at this
  obtain ⟨rfl, rfl, rfl⟩ := this
  rw [HZAS.out] at hz'
  exact hz')
 have HNW2 := hid (show w0.heap[w.heap.size]? = some (.cells #[.int .i64 k0, .int .i64 (qa : Int), .int .i64 pb, .int .i64 pc, .int .i64 n, .int .i64 m, .int .i64 si, .int .i64 sw, .string nm] 111 (0, 0)) from hnw.b0)
 clear hnw f_ha d7 f_za0
 have HEQ := hid (show NdIs ns ⟨k0, qa, pb, pc, n, m, si, sw, nm⟩ vs [(oneR k0 wa a0).1] from (nv1 hk).trans (by
  simp only [Int.toNat_natCast]
  rw [HZAS.out, HA0.out, HWA.out]))
 have hks : ¬ k0 = 33 ∧ ¬ k0 = 37 ∧ ¬ k0 = 38 ∧ ¬ k0 = 21 ∧ ¬ k0 = 29 ∧ ¬ k0 = 30 ∧ ¬ k0 = 31 ∧ ¬ k0 = 32 := by omega
 obtain ⟨k33, k37, k38, k21, k29, k30, k31, k32⟩ := hks
 have hpc : pcN k0 = 1 := by unfold pcN; rw [if_neg (by omega), if_pos (by omega)]
 have d31 : decide (k0 = 31) = false := decide_eq_false k31
 have d32 : decide (k0 = 32) = false := decide_eq_false k32
 have e31 : (k0 == 31) = false := by simpa using k31
 have e32 : (k0 == 32) = false := by simpa using k32
 have HPC := hid hpc
 clear hpc
 go_wp2_with fail
 refine (c_l2Parts k0 w0).mono ?_
 rintro e w0' ⟨he, rfl⟩
 rw [HPC.out] at he
 subst he
 go_upto_region 24 with fail
 refine wp_region_held_drew (S := (fun w' => w'.cell? ⟨w.heap.size, 0, none⟩ = some (.int .i64 k0) ∧ w'.cell? ⟨w.heap.size + 2, 0, none⟩ = some (.slice (some ⟨ba, oa, none⟩) la ca) ∧ w'.cell? ⟨ba, oa, none⟩ = some (.int .i64 a0))) (by kernel_rfl) ?_ (fun hHeld => ?_)
 ·first | exact ⟨f_n0, f_A, f_za⟩ | exact ⟨keepc (by go_grown) hl0 f_n0, keepc (by go_grown) hl2 f_A, keepc (by go_grown) hlba f_za⟩
 refine tL 0 (some 197) ?_
 refine tL 1 (some 198) ?_
 refine tL 2 (some 199) ?_
 refine tL 3 (some 200) ?_
 refine tL 4 (some 201) ?_
 refine tL 5 (some 202) ?_
 refine tL 6 (some 203) ?_
 refine wpAnyH_ready (rs := [7]) (by kernel_rfl) (by simp) ?_
 refine .cons (o := _) rfl (fun K hK => ?_) .nil
 go_simp
 refine (c_WordOneS k0 wa a0 _).mono ?_; rintro e w1 ⟨rfl, rfl⟩
 (try go_wp2_with fail)
 (try clear hHeld)
 refine hK.out _ _ ?_ (fun hHeld => ?_)
 ·first | exact ⟨f_n0, f_A, f_za⟩ | exact ⟨keepc (by go_grown) hl0 f_n0, keepc (by go_grown) hl2 f_A, keepc (by go_grown) hlba f_za⟩
 clear hK K
 (try simp only [Act.put, zq1, zq2, zq3])
 refine tL 8 (some 196) ?_
 refine tL 9 (some 205) ?_
 refine tL 10 (some 206) ?_
 refine tL 11 (some 207) ?_
 refine tL 12 (some 9) ?_
 refine wpAnyH_done (by kernel_rfl) ?_ _
 clear hHeld
 go_wp2_with fail
 refine (c_l4One (oneR k0 wa a0).1 (HRES.out _ (by rw [show nodeVal ns _ vs = _ from HEQ.out]; exact List.mem_singleton_self _)) _).mono ?_
 rintro e w1 ⟨x, rfl, hox, hq⟩
 have hb1 : Below w0.heap.size w0 w1 := ⟨hq.os, hq.tape, hq.output, hq.size, hq.block⟩
 have HNW1 := hid (HNW.out.below hb1)
 clear HNW
 have HNW := HNW1
 obtain ⟨xa, xc, rfl, -⟩ := own_form hox
 have HOX := hid (show w1.ownsInts w0.heap.size 3 .i64 (.slice xa [(oneR k0 wa a0).1].length xc) [(oneR k0 wa a0).1] from hox)
 have s0 := cell_of_block (i := 0) HNW.out.b1 (v := .slice none 0 0) rfl
 have s1 := free_of_block (i := 0) HNW.out.b1
 clear hox hq hb1 r0 r1
 go_wp2_with fail
 exact bodyPost_ret (v := .agg _) (results_cell_row rfl _ _ (w.heap.size + 1) 69 _ (0, 0) _ rfl (heap_setCell_same _ _ 0 _ _ (.slice xa [(oneR k0 wa a0).1].length xc) HNW.out.b1) Tryz.underlying69 rfl (by kernel_rfl)) rfl
  ⟨_, rfl, by have := HEQ.out; unfold NdIs at this; rw [this]; exact nd_own hlt HOX.out _, HNW.out.B.setCell (p := ⟨w.heap.size + 1, 0, none⟩) (Nat.le_succ _) _⟩
set_option maxHeartbeats 8000000 in
theorem c_l4Nodetwo {B : Nat} {a0' : Option Addr} {l0 p0 : Nat} {ns : List ND} {va : Option Addr} {vl vc : Nat} {vs : List (List Int)} (x : ND) (w : World) (hBw : B ≤ w.heap.size) (h : NodesAt B w a0' l0 p0 ns) (hv : ValsAt B w va vl vc vs) (hvl : vl ≤ l0) (hin : NodeIn vs vl x) (h1 : 1 ≤ pcN x.kind) (hs : ∀ i, i < vl → (vs.getD i []).length ≤ 4) (hres : ∀ z ∈ nodeVal ns x vs, fits z) (hk : 6 ≤ x.kind ∧ x.kind ≤ 28) (h21 : ¬ x.kind = 21) :
  Calls Tryz.prog 87 #[.slice a0' l0 p0, .agg x.cells.toArray, .slice va vl vc] w (ValP (nodeVal ns x vs) w) := by
 obtain ⟨k0, pa, pb, pc, n, m, si, sw, nm⟩ := x
 simp only [ND.cells] at *
 have HN := hid h
 have HV := hid hv
 have HS := hid hs
 have hpa := hin.pa h1
 obtain ⟨bv, ov, rfl, hbv⟩ := vals_form hv (show 0 < vl by have := hpa.2.1; omega)
 obtain ⟨qa, la, ca, ba, oa, hqa, hqal, hla, hbaB, f_ha, hza, f_za⟩ := part_at hv hpa
 simp only at hqa
 subst hqa
 obtain ⟨nda, bn, on, hnda, rfl, hbn, hcn⟩ := kind_at h (show qa < l0 by omega)
 obtain ⟨-, -, -, -, -, -, -, d7, -⟩ := node_cells hcn
 obtain ⟨wa, hwa⟩ : ∃ wa, nda.sw = wa := ⟨_, rfl⟩
 rw [hwa] at d7
 have HWA := hid (show (sortAt ns (qa : Int)).2 = wa by unfold sortAt; rw [Int.toNat_natCast, hnda]; exact hwa)
 have hm : vl ≤ maxLen := hv.le
 have hm2 : l0 ≤ maxLen := Nat.le_trans h.2.1 h.2.2.1
 unfold maxLen at hm hm2
 have hlam := hs qa hqal
 have hlal : (vs.getD qa []).length = la := hza.1
 have hla4 : la ≤ 4 := by omega
 obtain ⟨zas, hzas⟩ : ∃ zs, vs.getD qa [] = zs := ⟨_, rfl⟩
 obtain ⟨a0, ha0⟩ : ∃ z, zas.getD 0 0 = z := ⟨_, rfl⟩
 rw [hzas, ha0] at f_za
 have HZAS := hid hzas
 have HA0 := hid ha0
 have HIN := hid hin
 have HRES := hid hres
 have hqai : (qa : Int) < vl := by omega
 have hqai2 : (qa : Int) < l0 := by omega
 clear h hv hs hpa hnda hcn hwa hza hlal hlam hzas ha0 hin hres
 go_enter Tryz.func87, Tryz.ntmps87
 go_upto_region 1 with fail
 refine code_gen (R := fun wb => NdV #[.int .i64 k0, .int .i64 (qa : Int), .int .i64 pb, .int .i64 pc, .int .i64 n, .int .i64 m, .int .i64 si, .int .i64 sw, .string nm] w wb) (NdV.start _ _) ?_
 intro wv hnv
 have HNV := hid hnv
 have g1 := cell_of_block (i := 1) hnv.b0 (v := .int .i64 (qa : Int)) rfl
 have g2 := (hnv.B.cell (p := ⟨bv, ov + qa, none⟩) (by show bv < w.heap.size; omega)).trans f_ha
 clear hnv
 go_upto_region 2 with fail
 refine code_gen (R := fun wb => NdW #[.int .i64 k0, .int .i64 (qa : Int), .int .i64 pb, .int .i64 pc, .int .i64 n, .int .i64 m, .int .i64 si, .int .i64 sw, .string nm] (.slice (some ⟨ba, oa, none⟩) la ca) w wb) (HNV.out.next _) ?_
 intro w0 hnw
 rw [HNV.out.sz]
 have g3 := cell_of_block (i := 1) hnw.b0 (v := .int .i64 (qa : Int)) rfl
 have g4 := (hnw.B.cell (p := ⟨bn, on + qa * 9 + 7, none⟩) (by show bn < w.heap.size; omega)).trans d7
 clear g1 g2 HNV
 go_upto_region 3 with fail
 clear g3 g4
 have HNW := hid hnw
 have hlt := hnw.lt
 have HV0 := hid (HV.out.below (hnw.B.mono hBw))
 have HN0 := hid (HN.out.rows.below (hnw.B.mono hBw)).nodes
 have f_n0 := cell_of_block (i := 0) hnw.b0 (v := .int .i64 k0) rfl
 have f_n4 := cell_of_block (i := 4) hnw.b0 (v := .int .i64 n) rfl
 have f_n5 := cell_of_block (i := 5) hnw.b0 (v := .int .i64 m) rfl
 have f_A := cell_of_block (i := 0) hnw.b2 (v := .slice (some ⟨ba, oa, none⟩) la ca) rfl
 have r0 := cell_of_block (i := 0) hnw.b1 (v := .slice none 0 0) rfl
 have r1 := free_of_block (i := 0) hnw.b1
 have f_za0 := f_za
 replace f_za := (hnw.B.cell (p := ⟨ba, oa, none⟩) (by show ba < w.heap.size; omega)).trans f_za
 have hl0 : w.heap.size < w0.heap.size := by omega
 have hl2 : w.heap.size + 2 < w0.heap.size := hlt
 have hlba : ba < w0.heap.size := by omega
 have hlbv : bv < w0.heap.size := by omega
 have hlbn : bn < w0.heap.size := by omega
 have hzaI := hid (show IntsAt B w0 (some ⟨ba, oa, none⟩) la ca zas from by
  obtain ⟨a', l', c', b', o', e, -, hc', hz'⟩ := val_at HV0.out hqal
  injection e with e
  injection e with e1 e2
  subst e1; subst e2
  have := (hnw.B.cell (p := ⟨bv, ov + qa, none⟩) (by show bv < w.heap.size; omega)).trans f_ha
  rw [hc'] at this
  simp only [Option.some.injEq, Value.slice.injEq] at this
  obtain ⟨rfl, rfl, rfl⟩ := this
  rw [HZAS.out] at hz'
  exact hz')
 have HNW2 := hid (show w0.heap[w.heap.size]? = some (.cells #[.int .i64 k0, .int .i64 (qa : Int), .int .i64 pb, .int .i64 pc, .int .i64 n, .int .i64 m, .int .i64 si, .int .i64 sw, .string nm] 111 (0, 0)) from hnw.b0)
 clear hnw f_ha d7 f_za0
 have hin := HIN.out
 have f_n2 := cell_of_block (i := 2) HNW2.out (v := .int .i64 pb) rfl
 obtain ⟨qb, lb, cb, bb, ob, hqb, hqbl, hlb, hbB, f_hb, hzb, f_zb⟩ := part_at HV0.out (hin.pb (by show 2 ≤ pcN k0; unfold pcN; rw [if_neg (by omega), if_neg (by omega), if_pos (by omega)]; decide))
 simp only at hqb
 subst hqb
 have hlbb : bb < w0.heap.size := by omega
 obtain ⟨zbs, hzbs⟩ : ∃ zs, vs.getD qb [] = zs := ⟨_, rfl⟩
 have hlb4 : lb ≤ 4 := by have h1 := HS.out qb hqbl; have h2 := hzb.1; omega
 obtain ⟨b0, hb0⟩ : ∃ z, zbs.getD 0 0 = z := ⟨_, rfl⟩
 rw [hzbs] at hzb f_zb
 rw [hb0] at f_zb
 have HZBS := hid hzbs
 have HB0 := hid hb0
 have HZB := hid hzb
 have hqbi : (qb : Int) < vl := by omega
 have hqbi2 : (qb : Int) < l0 := by omega
 clear hin hzb hzbs hb0
 have HEQ := hid (show NdIs ns ⟨k0, qa, qb, pc, n, m, si, sw, nm⟩ vs [(twoR k0 wa a0 b0).1] from (nv2 hk h21).trans (by
  simp only [Int.toNat_natCast]
  rw [HZAS.out, HA0.out, HWA.out, HZBS.out, HB0.out]))
 have hks : ¬ k0 = 33 ∧ ¬ k0 = 37 ∧ ¬ k0 = 38 ∧ ¬ k0 = 21 ∧ ¬ k0 = 29 ∧ ¬ k0 = 30 ∧ ¬ k0 = 31 ∧ ¬ k0 = 32 := by omega
 obtain ⟨k33, k37, k38, k21, k29, k30, k31, k32⟩ := hks
 have hpc : pcN k0 = 2 := by unfold pcN; (repeat rw [if_neg (by omega)]); rw [if_pos (by omega)]
 have d31 : decide (k0 = 31) = false := decide_eq_false k31
 have d32 : decide (k0 = 32) = false := decide_eq_false k32
 have e31 : (k0 == 31) = false := by simpa using k31
 have e32 : (k0 == 32) = false := by simpa using k32
 have HPC := hid hpc
 clear hpc
 go_wp2_with fail
 refine (c_l2Parts k0 w0).mono ?_
 rintro e w0' ⟨he, rfl⟩
 rw [HPC.out] at he
 subst he
 go_upto_region 4 with fail
 refine wp_region_held_drew (S := (fun w' => w'.cell? ⟨w.heap.size, 0, none⟩ = some (.int .i64 k0) ∧ w'.cell? ⟨w.heap.size + 2, 0, none⟩ = some (.slice (some ⟨ba, oa, none⟩) la ca) ∧ w'.cell? ⟨ba, oa, none⟩ = some (.int .i64 a0) ∧ w'.cell? ⟨w.heap.size, 2, none⟩ = some (.int .i64 (qb : Int)) ∧ w'.cell? ⟨bv, ov + qb, none⟩ = some (.slice (some ⟨bb, ob, none⟩) lb cb) ∧ w'.cell? ⟨bb, ob, none⟩ = some (.int .i64 b0))) (by kernel_rfl) ?_ (fun hHeld => ?_)
 ·first | exact ⟨f_n0, f_A, f_za, f_n2, f_hb, f_zb⟩ | exact ⟨keepc (by go_grown) hl0 f_n0, keepc (by go_grown) hl2 f_A, keepc (by go_grown) hlba f_za, keepc (by go_grown) hl0 f_n2, keepc (by go_grown) hlbv f_hb, keepc (by go_grown) hlbb f_zb⟩
 refine tL 0 (some 24) ?_
 refine tL 1 (some 25) ?_
 refine tL 2 (some 26) ?_
 refine tL 3 (some 27) ?_
 refine tL 4 (some 28) ?_
 refine tL 5 (some 29) ?_
 refine tL 6 (some 30) ?_
 refine tL 7 (some 31) ?_
 refine tL 8 (some 32) ?_
 refine tL 9 (some 33) ?_
 refine tL 10 (some 34) ?_
 refine tL 11 (some 35) ?_
 refine tL 12 (some 36) ?_
 refine tL 13 (some 37) ?_
 refine tL 14 (some 38) ?_
 refine wpAnyH_ready (rs := [15]) (by kernel_rfl) (by simp) ?_
 refine .cons (o := _) rfl (fun K hK => ?_) .nil
 go_simp
 refine (c_WordTwoS k0 wa a0 b0 _).mono ?_; rintro e w1 ⟨rfl, mm, rfl⟩
 (try go_wp2_with fail)
 (try clear hHeld)
 refine hK.out _ _ ?_ (fun hHeld => ?_)
 ·first | exact ⟨f_n0, f_A, f_za, f_n2, f_hb, f_zb⟩ | exact ⟨keepc (by go_grown) hl0 f_n0, keepc (by go_grown) hl2 f_A, keepc (by go_grown) hlba f_za, keepc (by go_grown) hl0 f_n2, keepc (by go_grown) hlbv f_hb, keepc (by go_grown) hlbb f_zb⟩
 clear hK K
 (try simp only [Act.put, zq1, zq2, zq3])
 refine tL 16 (some 23) ?_
 refine tL 17 (some 40) ?_
 refine tL 18 (some 41) ?_
 refine tL 19 (some 42) ?_
 refine tL 20 (some 9) ?_
 refine wpAnyH_done (by kernel_rfl) ?_ _
 clear hHeld
 go_wp2_with fail
 refine (c_l4One (twoR k0 wa a0 b0).1 (HRES.out _ (by rw [show nodeVal ns _ vs = _ from HEQ.out]; exact List.mem_singleton_self _)) _).mono ?_
 rintro e w1 ⟨x, rfl, hox, hq⟩
 have hb1 : Below w0.heap.size w0 w1 := ⟨hq.os, hq.tape, hq.output, hq.size, hq.block⟩
 have HNW1 := hid (HNW.out.below hb1)
 clear HNW
 have HNW := HNW1
 obtain ⟨xa, xc, rfl, -⟩ := own_form hox
 have HOX := hid (show w1.ownsInts w0.heap.size 3 .i64 (.slice xa [(twoR k0 wa a0 b0).1].length xc) [(twoR k0 wa a0 b0).1] from hox)
 have s0 := cell_of_block (i := 0) HNW.out.b1 (v := .slice none 0 0) rfl
 have s1 := free_of_block (i := 0) HNW.out.b1
 clear hox hq hb1 r0 r1
 go_wp2_with fail
 exact bodyPost_ret (v := .agg _) (results_cell_row rfl _ _ (w.heap.size + 1) 69 _ (0, 0) _ rfl (heap_setCell_same _ _ 0 _ _ (.slice xa [(twoR k0 wa a0 b0).1].length xc) HNW.out.b1) Tryz.underlying69 rfl (by kernel_rfl)) rfl
  ⟨_, rfl, by have := HEQ.out; unfold NdIs at this; rw [this]; exact nd_own hlt HOX.out _, HNW.out.B.setCell (p := ⟨w.heap.size + 1, 0, none⟩) (Nat.le_succ _) _⟩
end Go.Proofs.YtlcgimadbpagfaaGreat
