/-
  Parts: EvN3, shortened.
-/
import Derived.Test.YtlcgimadbpagfaaGreatZEvN2
namespace Go.Proofs.YtlcgimadbpagfaaGreat
open Go.Lib
open Go.ChangeShapes Go.WideShapes Go.ChangeAt Go.RowKit Go.Maps
set_option linter.unusedVariables false
set_option maxRecDepth 100000
set_option maxHeartbeats 8000000 in
theorem c_l4Node37 {B : Nat} {a0' : Option Addr} {l0 p0 : Nat} {ns : List ND} {va : Option Addr} {vl vc : Nat} {vs : List (List Int)} (x : ND) (w : World) (hBw : B ≤ w.heap.size) (h : NodesAt B w a0' l0 p0 ns) (hv : ValsAt B w va vl vc vs) (hvl : vl ≤ l0) (hin : NodeIn vs vl x) (h1 : 1 ≤ pcN x.kind) (hs : ∀ i, i < vl → (vs.getD i []).length ≤ 4) (hres : ∀ z ∈ nodeVal ns x vs, fits z) (hk : x.kind = 37) :
  Calls Tryz.prog 87 #[.slice a0' l0 p0, .agg x.cells.toArray, .slice va vl vc] w (ValP (nodeVal ns x vs) w) := by
 obtain ⟨k0, pa, pb, pc, n, m, si, sw, nm⟩ := x
 simp only [ND.cells] at *
 subst hk
 have HN := hid h
 have HV := hid hv
 have HS := hid hs
 have hpa := hin.pa h1
 obtain ⟨bv, ov, rfl, hbv⟩ := vals_form hv (show 0 < vl by have := hpa.2.1; omega)
 obtain ⟨qa, la, ca, ba, oa, hqa, hqal, hla, hbaB, f_ha, hza, f_za⟩ := part_at hv hpa
 simp only at hqa
 subst hqa
 obtain ⟨nda, bn, on, hnda, rfl, hbn, hcn⟩ := kind_at h (show qa < l0 by omega)
 obtain ⟨-, -, -, -, -, -, -, d7, -⟩ := node_cells hcn
 obtain ⟨wa, hwa⟩ : ∃ wa, nda.sw = wa := ⟨_, rfl⟩
 rw [hwa] at d7
 have HWA := hid (show (sortAt ns (qa : Int)).2 = wa by unfold sortAt; rw [Int.toNat_natCast, hnda]; exact hwa)
 have hm : vl ≤ maxLen := hv.le
 have hm2 : l0 ≤ maxLen := Nat.le_trans h.2.1 h.2.2.1
 unfold maxLen at hm hm2
 have hlam := hs qa hqal
 have hlal : (vs.getD qa []).length = la := hza.1
 have hla4 : la ≤ 4 := by omega
 obtain ⟨zas, hzas⟩ : ∃ zs, vs.getD qa [] = zs := ⟨_, rfl⟩
 obtain ⟨a0, ha0⟩ : ∃ z, zas.getD 0 0 = z := ⟨_, rfl⟩
 rw [hzas, ha0] at f_za
 have HZAS := hid hzas
 have HA0 := hid ha0
 have HIN := hid hin
 have HRES := hid hres
 have hqai : (qa : Int) < vl := by omega
 have hqai2 : (qa : Int) < l0 := by omega
 clear h hv hs hpa hnda hcn hwa hza hlal hlam hzas ha0 hin hres
 go_enter Tryz.func87, Tryz.ntmps87
 go_upto_region 1 with fail
 refine code_gen (R := fun wb => NdV #[.int .i64 37, .int .i64 (qa : Int), .int .i64 pb, .int .i64 pc, .int .i64 n, .int .i64 m, .int .i64 si, .int .i64 sw, .string nm] w wb) (NdV.start _ _) ?_
 intro wv hnv
 have HNV := hid hnv
 have g1 := cell_of_block (i := 1) hnv.b0 (v := .int .i64 (qa : Int)) rfl
 have g2 := (hnv.B.cell (p := ⟨bv, ov + qa, none⟩) (by show bv < w.heap.size; omega)).trans f_ha
 clear hnv
 go_upto_region 2 with fail
 refine code_gen (R := fun wb => NdW #[.int .i64 37, .int .i64 (qa : Int), .int .i64 pb, .int .i64 pc, .int .i64 n, .int .i64 m, .int .i64 si, .int .i64 sw, .string nm] (.slice (some ⟨ba, oa, none⟩) la ca) w wb) (HNV.out.next _) ?_
 intro w0 hnw
 rw [HNV.out.sz]
 have g3 := cell_of_block (i := 1) hnw.b0 (v := .int .i64 (qa : Int)) rfl
 have g4 := (hnw.B.cell (p := ⟨bn, on + qa * 9 + 7, none⟩) (by show bn < w.heap.size; omega)).trans d7
 clear g1 g2 HNV
 go_upto_region 3 with fail
 clear g3 g4
 have HNW := hid hnw
 have hlt := hnw.lt
 have HV0 := hid (HV.out.below (hnw.B.mono hBw))
 have HN0 := hid (HN.out.rows.below (hnw.B.mono hBw)).nodes
 have f_n0 := cell_of_block (i := 0) hnw.b0 (v := .int .i64 37) rfl
 have f_n4 := cell_of_block (i := 4) hnw.b0 (v := .int .i64 n) rfl
 have f_n5 := cell_of_block (i := 5) hnw.b0 (v := .int .i64 m) rfl
 have f_A := cell_of_block (i := 0) hnw.b2 (v := .slice (some ⟨ba, oa, none⟩) la ca) rfl
 have r0 := cell_of_block (i := 0) hnw.b1 (v := .slice none 0 0) rfl
 have r1 := free_of_block (i := 0) hnw.b1
 have f_za0 := f_za
 replace f_za := (hnw.B.cell (p := ⟨ba, oa, none⟩) (by show ba < w.heap.size; omega)).trans f_za
 have hl0 : w.heap.size < w0.heap.size := by omega
 have hl2 : w.heap.size + 2 < w0.heap.size := hlt
 have hlba : ba < w0.heap.size := by omega
 have hlbv : bv < w0.heap.size := by omega
 have hlbn : bn < w0.heap.size := by omega
 have hzaI := hid (show IntsAt B w0 (some ⟨ba, oa, none⟩) la ca zas from by
  obtain ⟨a', l', c', b', o', e, -, hc', hz'⟩ := val_at HV0.out hqal
  injection e with e
  injection e with e1 e2
  subst e1; subst e2
  have := (hnw.B.cell (p := ⟨bv, ov + qa, none⟩) (by show bv < w.heap.size; omega)).trans f_ha
  rw [hc'] at this
  simp only [Option.some.injEq, Value.slice.injEq] at this
  obtain ⟨rfl, rfl, rfl⟩ := this
  rw [HZAS.out] at hz'
  exact hz')
 have HNW2 := hid (show w0.heap[w.heap.size]? = some (.cells #[.int .i64 37, .int .i64 (qa : Int), .int .i64 pb, .int .i64 pc, .int .i64 n, .int .i64 m, .int .i64 si, .int .i64 sw, .string nm] 111 (0, 0)) from hnw.b0)
 clear hnw f_ha d7 f_za0
 have hin := HIN.out
 have f_n2 := cell_of_block (i := 2) HNW2.out (v := .int .i64 pb) rfl
 obtain ⟨qb, lb, cb, bb, ob, hqb, hqbl, hlb, hbB, f_hb, hzb, f_zb⟩ := part_at HV0.out (hin.pb (by show 2 ≤ pcN 37; decide))
 simp only at hqb
 subst hqb
 have hlbb : bb < w0.heap.size := by omega
 obtain ⟨zbs, hzbs⟩ : ∃ zs, vs.getD qb [] = zs := ⟨_, rfl⟩
 have hlb4 : lb ≤ 4 := by have h1 := HS.out qb hqbl; have h2 := hzb.1; omega
 obtain ⟨b0, hb0⟩ : ∃ z, zbs.getD 0 0 = z := ⟨_, rfl⟩
 rw [hzbs] at hzb f_zb
 rw [hb0] at f_zb
 have HZBS := hid hzbs
 have HB0 := hid hb0
 have HZB := hid hzb
 have hqbi : (qb : Int) < vl := by omega
 have hqbi2 : (qb : Int) < l0 := by omega
 clear hin hzb hzbs hb0
 have hix : 0 ≤ b0 ∧ b0.toNat < zas.length := by
  have := HIN.out.idx (.inl rfl)
  simp only [Int.toNat_natCast] at this
  rw [HZAS.out, HZBS.out, HB0.out] at this
  exact this
 have hzl : zas.length = la := hzaI.out.1
 obtain ⟨ib, rfl⟩ : ∃ ib : Nat, b0 = ib := ⟨b0.toNat, by omega⟩
 have hib : ib < la := by omega
 have hibi : (ib : Int) < la := by omega
 obtain ⟨zi, ba', oa', hzi, -, hbe, -, f_zi⟩ := int_at hzaI.out hib
 injection hbe with hbe
 injection hbe with e1 e2
 subst e1; subst e2
 have HEQ := hid (show NdIs ns ⟨37, qa, qb, pc, n, m, si, sw, nm⟩ vs [zi] from (nv37 rfl).trans (by
  simp only [Int.toNat_natCast]
  rw [HZAS.out, HZBS.out, HB0.out, Int.toNat_natCast, hzi]))
 clear hix hzi hzl
 go_upto_region 10 with fail
 refine wp_region_held_drew (S := (fun w' => w'.cell? ⟨w.heap.size + 2, 0, none⟩ = some (.slice (some ⟨ba, oa, none⟩) la ca) ∧ w'.cell? ⟨w.heap.size, 2, none⟩ = some (.int .i64 (qb : Int)) ∧ w'.cell? ⟨bv, ov + qb, none⟩ = some (.slice (some ⟨bb, ob, none⟩) lb cb) ∧ w'.cell? ⟨bb, ob, none⟩ = some (.int .i64 (ib : Int)) ∧ w'.cell? ⟨ba, oa + ib, none⟩ = some (.int .i64 zi))) (by kernel_rfl) ?_ (fun hHeld => ?_)
 ·first | exact ⟨f_A, f_n2, f_hb, f_zb, f_zi⟩ | exact ⟨keepc hb2 hl2 f_A, keepc hb2 hl0 f_n2, keepc hb2 hlbv f_hb, keepc hb2 hlbb f_zb, keepc hb2 hlba f_zi⟩ | exact ⟨keepc hb1 hl2 f_A, keepc hb1 hl0 f_n2, keepc hb1 hlbv f_hb, keepc hb1 hlbb f_zb, keepc hb1 hlba f_zi⟩ | exact ⟨keepS hb1 hl2 (by omega) f_A, keepS hb1 hl0 (by omega) f_n2, keepS hb1 hlbv (by omega) f_hb, keepS hb1 hlbb (by omega) f_zb, keepS hb1 hlba (by omega) f_zi⟩
 refine tL 0 (some 68) ?_
 refine tL 1 (some 69) ?_
 refine tL 2 (some 70) ?_
 refine tL 3 (some 71) ?_
 refine tL 4 (some 72) ?_
 refine tL 5 (some 73) ?_
 refine tL 6 (some 74) ?_
 refine tL 7 (some 75) ?_
 refine tL 8 (some 76) ?_
 refine tL 9 (some 77) ?_
 refine tL 10 (some 78) ?_
 refine tL 11 (some 79) ?_
 refine wpAnyH_ready (rs := [12]) (by kernel_rfl) (by simp) ?_
 refine .cons (o := _) rfl (fun K hK => ?_) .nil
 go_simp
 refine (c_l4One zi (HRES.out _ (by rw [show nodeVal ns _ vs = _ from HEQ.out]; exact List.mem_singleton_self _)) _).mono ?_; rintro e w1 ⟨x, rfl, hox, hq⟩; have hb1 : Below w0.heap.size w0 w1 := ⟨hq.os, hq.tape, hq.output, hq.size, hq.block⟩; have HNW1 := hid (HNW.out.below hb1); clear HNW; have HNW := HNW1; obtain ⟨xa, xc, rfl, -⟩ := own_form hox; have HOX := hid (show w1.ownsInts w0.heap.size 3 .i64 (.slice xa [zi].length xc) [zi] from hox); have s0 := cell_of_block (i := 0) HNW.out.b1 (v := .slice none 0 0) rfl; have s1 := free_of_block (i := 0) HNW.out.b1; clear hox hq r0 r1
 (try go_wp2_with fail)
 (try clear hHeld)
 refine hK.out _ _ ?_ (fun hHeld => ?_)
 ·first | exact ⟨f_A, f_n2, f_hb, f_zb, f_zi⟩ | exact ⟨keepc hb2 hl2 f_A, keepc hb2 hl0 f_n2, keepc hb2 hlbv f_hb, keepc hb2 hlbb f_zb, keepc hb2 hlba f_zi⟩ | exact ⟨keepc hb1 hl2 f_A, keepc hb1 hl0 f_n2, keepc hb1 hlbv f_hb, keepc hb1 hlbb f_zb, keepc hb1 hlba f_zi⟩ | exact ⟨keepS hb1 hl2 (by omega) f_A, keepS hb1 hl0 (by omega) f_n2, keepS hb1 hlbv (by omega) f_hb, keepS hb1 hlbb (by omega) f_zb, keepS hb1 hlba (by omega) f_zi⟩
 clear hK K
 (try simp only [Act.put, zq1, zq2, zq3])
 refine wpAnyH_ready (rs := [13]) (by kernel_rfl) (by simp) ?_
 refine .cons (o := _) rfl (fun K hK => ?_) .nil
 go_simp
 (try clear hHeld)
 refine hK.out _ _ ?_ (fun hHeld => ?_)
 ·first | exact ⟨f_A, f_n2, f_hb, f_zb, f_zi⟩ | exact ⟨keepc hb2 hl2 f_A, keepc hb2 hl0 f_n2, keepc hb2 hlbv f_hb, keepc hb2 hlbb f_zb, keepc hb2 hlba f_zi⟩ | exact ⟨keepc hb1 hl2 f_A, keepc hb1 hl0 f_n2, keepc hb1 hlbv f_hb, keepc hb1 hlbb f_zb, keepc hb1 hlba f_zi⟩ | exact ⟨keepS hb1 hl2 (by omega) f_A, keepS hb1 hl0 (by omega) f_n2, keepS hb1 hlbv (by omega) f_hb, keepS hb1 hlbb (by omega) f_zb, keepS hb1 hlba (by omega) f_zi⟩
 clear hK K
 (try simp only [Act.put, zq1, zq2, zq3])
 refine wpAnyH_done (by kernel_rfl) ?_ _
 clear hHeld
 go_wp2_with fail
 exact bodyPost_ret (v := .agg _) (results_cell_row rfl _ _ (w.heap.size + 1) 69 _ (0, 0) _ rfl (heap_setCell_same _ _ 0 _ _ (.slice xa [zi].length xc) HNW.out.b1) Tryz.underlying69 rfl (by kernel_rfl)) rfl
  ⟨_, rfl, by have := HEQ.out; unfold NdIs at this; rw [this]; exact nd_own hlt HOX.out _, HNW.out.B.setCell (p := ⟨w.heap.size + 1, 0, none⟩) (Nat.le_succ _) _⟩
set_option maxHeartbeats 8000000 in
theorem c_l4Node21t {B : Nat} {a0' : Option Addr} {l0 p0 : Nat} {ns : List ND} {va : Option Addr} {vl vc : Nat} {vs : List (List Int)} (x : ND) (w : World) (hBw : B ≤ w.heap.size) (h : NodesAt B w a0' l0 p0 ns) (hv : ValsAt B w va vl vc vs) (hvl : vl ≤ l0) (hin : NodeIn vs vl x) (h1 : 1 ≤ pcN x.kind) (hs : ∀ i, i < vl → (vs.getD i []).length ≤ 4) (hres : ∀ z ∈ nodeVal ns x vs, fits z) (hk : x.kind = 21) (hab : vs.getD x.a.toNat [] = vs.getD x.b.toNat []) :
  Calls Tryz.prog 87 #[.slice a0' l0 p0, .agg x.cells.toArray, .slice va vl vc] w (ValP (nodeVal ns x vs) w) := by
 obtain ⟨k0, pa, pb, pc, n, m, si, sw, nm⟩ := x
 simp only [ND.cells] at *
 subst hk
 have HN := hid h
 have HV := hid hv
 have HS := hid hs
 have hpa := hin.pa h1
 obtain ⟨bv, ov, rfl, hbv⟩ := vals_form hv (show 0 < vl by have := hpa.2.1; omega)
 obtain ⟨qa, la, ca, ba, oa, hqa, hqal, hla, hbaB, f_ha, hza, f_za⟩ := part_at hv hpa
 simp only at hqa
 subst hqa
 obtain ⟨nda, bn, on, hnda, rfl, hbn, hcn⟩ := kind_at h (show qa < l0 by omega)
 obtain ⟨-, -, -, -, -, -, -, d7, -⟩ := node_cells hcn
 obtain ⟨wa, hwa⟩ : ∃ wa, nda.sw = wa := ⟨_, rfl⟩
 rw [hwa] at d7
 have HWA := hid (show (sortAt ns (qa : Int)).2 = wa by unfold sortAt; rw [Int.toNat_natCast, hnda]; exact hwa)
 have hm : vl ≤ maxLen := hv.le
 have hm2 : l0 ≤ maxLen := Nat.le_trans h.2.1 h.2.2.1
 unfold maxLen at hm hm2
 have hlam := hs qa hqal
 have hlal : (vs.getD qa []).length = la := hza.1
 have hla4 : la ≤ 4 := by omega
 obtain ⟨zas, hzas⟩ : ∃ zs, vs.getD qa [] = zs := ⟨_, rfl⟩
 obtain ⟨a0, ha0⟩ : ∃ z, zas.getD 0 0 = z := ⟨_, rfl⟩
 rw [hzas, ha0] at f_za
 have HZAS := hid hzas
 have HA0 := hid ha0
 have HIN := hid hin
 have HRES := hid hres
 have hqai : (qa : Int) < vl := by omega
 have hqai2 : (qa : Int) < l0 := by omega
 clear h hv hs hpa hnda hcn hwa hza hlal hlam hzas ha0 hin hres
 go_enter Tryz.func87, Tryz.ntmps87
 go_upto_region 1 with fail
 refine code_gen (R := fun wb => NdV #[.int .i64 21, .int .i64 (qa : Int), .int .i64 pb, .int .i64 pc, .int .i64 n, .int .i64 m, .int .i64 si, .int .i64 sw, .string nm] w wb) (NdV.start _ _) ?_
 intro wv hnv
 have HNV := hid hnv
 have g1 := cell_of_block (i := 1) hnv.b0 (v := .int .i64 (qa : Int)) rfl
 have g2 := (hnv.B.cell (p := ⟨bv, ov + qa, none⟩) (by show bv < w.heap.size; omega)).trans f_ha
 clear hnv
 go_upto_region 2 with fail
 refine code_gen (R := fun wb => NdW #[.int .i64 21, .int .i64 (qa : Int), .int .i64 pb, .int .i64 pc, .int .i64 n, .int .i64 m, .int .i64 si, .int .i64 sw, .string nm] (.slice (some ⟨ba, oa, none⟩) la ca) w wb) (HNV.out.next _) ?_
 intro w0 hnw
 rw [HNV.out.sz]
 have g3 := cell_of_block (i := 1) hnw.b0 (v := .int .i64 (qa : Int)) rfl
 have g4 := (hnw.B.cell (p := ⟨bn, on + qa * 9 + 7, none⟩) (by show bn < w.heap.size; omega)).trans d7
 clear g1 g2 HNV
 go_upto_region 3 with fail
 clear g3 g4
 have HNW := hid hnw
 have hlt := hnw.lt
 have HV0 := hid (HV.out.below (hnw.B.mono hBw))
 have HN0 := hid (HN.out.rows.below (hnw.B.mono hBw)).nodes
 have f_n0 := cell_of_block (i := 0) hnw.b0 (v := .int .i64 21) rfl
 have f_n4 := cell_of_block (i := 4) hnw.b0 (v := .int .i64 n) rfl
 have f_n5 := cell_of_block (i := 5) hnw.b0 (v := .int .i64 m) rfl
 have f_A := cell_of_block (i := 0) hnw.b2 (v := .slice (some ⟨ba, oa, none⟩) la ca) rfl
 have r0 := cell_of_block (i := 0) hnw.b1 (v := .slice none 0 0) rfl
 have r1 := free_of_block (i := 0) hnw.b1
 have f_za0 := f_za
 replace f_za := (hnw.B.cell (p := ⟨ba, oa, none⟩) (by show ba < w.heap.size; omega)).trans f_za
 have hl0 : w.heap.size < w0.heap.size := by omega
 have hl2 : w.heap.size + 2 < w0.heap.size := hlt
 have hlba : ba < w0.heap.size := by omega
 have hlbv : bv < w0.heap.size := by omega
 have hlbn : bn < w0.heap.size := by omega
 have hzaI := hid (show IntsAt B w0 (some ⟨ba, oa, none⟩) la ca zas from by
  obtain ⟨a', l', c', b', o', e, -, hc', hz'⟩ := val_at HV0.out hqal
  injection e with e
  injection e with e1 e2
  subst e1; subst e2
  have := (hnw.B.cell (p := ⟨bv, ov + qa, none⟩) (by show bv < w.heap.size; omega)).trans f_ha
  rw [hc'] at this
  simp only [Option.some.injEq, Value.slice.injEq] at this
  obtain ⟨rfl, rfl, rfl⟩ := this
  rw [HZAS.out] at hz'
  exact hz')
 have HNW2 := hid (show w0.heap[w.heap.size]? = some (.cells #[.int .i64 21, .int .i64 (qa : Int), .int .i64 pb, .int .i64 pc, .int .i64 n, .int .i64 m, .int .i64 si, .int .i64 sw, .string nm] 111 (0, 0)) from hnw.b0)
 clear hnw f_ha d7 f_za0
 have hin := HIN.out
 have f_n2 := cell_of_block (i := 2) HNW2.out (v := .int .i64 pb) rfl
 obtain ⟨qb, lb, cb, bb, ob, hqb, hqbl, hlb, hbB, f_hb, hzb, f_zb⟩ := part_at HV0.out (hin.pb (by show 2 ≤ pcN 21; decide))
 simp only at hqb
 subst hqb
 have hlbb : bb < w0.heap.size := by omega
 obtain ⟨zbs, hzbs⟩ : ∃ zs, vs.getD qb [] = zs := ⟨_, rfl⟩
 have hlb4 : lb ≤ 4 := by have h1 := HS.out qb hqbl; have h2 := hzb.1; omega
 obtain ⟨b0, hb0⟩ : ∃ z, zbs.getD 0 0 = z := ⟨_, rfl⟩
 rw [hzbs] at hzb f_zb
 rw [hb0] at f_zb
 have HZBS := hid hzbs
 have HB0 := hid hb0
 have HZB := hid hzb
 have hqbi : (qb : Int) < vl := by omega
 have hqbi2 : (qb : Int) < l0 := by omega
 clear hin hzb hzbs hb0
 have HEQ := hid (show NdIs ns ⟨21, qa, qb, pc, n, m, si, sw, nm⟩ vs [1] from nv21t rfl hab)
 simp only [Int.toNat_natCast] at hab
 rw [HZAS.out, HZBS.out] at hab
 have hsl : zas.length = zbs.length := by
  have := HIN.out.same rfl
  simp only [Int.toNat_natCast] at this
  rw [HZAS.out, HZBS.out] at this
  exact this
 have HAB := hid hab
 clear hab
 go_upto_region 16 with fail
 refine wp_region_held_drew (S := (fun w' => w'.cell? ⟨w.heap.size + 2, 0, none⟩ = some (.slice (some ⟨ba, oa, none⟩) la ca) ∧ w'.cell? ⟨w.heap.size, 2, none⟩ = some (.int .i64 (qb : Int)) ∧ w'.cell? ⟨bv, ov + qb, none⟩ = some (.slice (some ⟨bb, ob, none⟩) lb cb))) (by kernel_rfl) ?_ (fun hHeld => ?_)
 ·first | exact ⟨f_A, f_n2, f_hb⟩ | exact ⟨keepc hb2 hl2 f_A, keepc hb2 hl0 f_n2, keepc hb2 hlbv f_hb⟩ | exact ⟨keepc hb1 hl2 f_A, keepc hb1 hl0 f_n2, keepc hb1 hlbv f_hb⟩ | exact ⟨keepS hb1 hl2 (by omega) f_A, keepS hb1 hl0 (by omega) f_n2, keepS hb1 hlbv (by omega) f_hb⟩
 refine tL 0 (some 111) ?_
 refine tL 1 (some 112) ?_
 refine tL 2 (some 113) ?_
 refine tL 3 (some 114) ?_
 refine tL 4 (some 115) ?_
 refine tL 5 (some 116) ?_
 refine wpAnyH_ready (rs := [6]) (by kernel_rfl) (by simp) ?_
 refine .cons (o := _) rfl (fun K hK => ?_) .nil
 go_simp
 refine (c_l4Same (B := B) _ (Nat.le_trans (show B ≤ w0.heap.size by omega) (by first | exact Nat.le_refl _ | go_size)) (hzaI.out.below (Below.mono (show Below w0.heap.size w0 _ by go_grown) (by omega))) (HZB.out.below (Below.mono (show Below w0.heap.size w0 _ by go_grown) (by omega))) hsl).mono ?_; rintro e w2 ⟨he, hq⟩; obtain rfl := boolIs_t HAB.out he; have hb2 : Below w0.heap.size w0 w2 := ⟨hq.os, hq.tape, hq.output, hq.size, hq.block⟩; clear he hq
 (try go_wp2_with fail)
 (try clear hHeld)
 refine hK.out _ _ ?_ (fun hHeld => ?_)
 ·first | exact ⟨f_A, f_n2, f_hb⟩ | exact ⟨keepc hb2 hl2 f_A, keepc hb2 hl0 f_n2, keepc hb2 hlbv f_hb⟩ | exact ⟨keepc hb1 hl2 f_A, keepc hb1 hl0 f_n2, keepc hb1 hlbv f_hb⟩ | exact ⟨keepS hb1 hl2 (by omega) f_A, keepS hb1 hl0 (by omega) f_n2, keepS hb1 hlbv (by omega) f_hb⟩
 clear hK K
 (try simp only [Act.put, zq1, zq2, zq3])
 refine wpAnyH_ready (rs := [7]) (by kernel_rfl) (by simp) ?_
 refine .cons (o := _) rfl (fun K hK => ?_) .nil
 go_simp
 refine (c_l1Yes true _).mono ?_; rintro e w3 ⟨rfl, rfl⟩
 (try go_wp2_with fail)
 (try clear hHeld)
 refine hK.out _ _ ?_ (fun hHeld => ?_)
 ·first | exact ⟨f_A, f_n2, f_hb⟩ | exact ⟨keepc hb2 hl2 f_A, keepc hb2 hl0 f_n2, keepc hb2 hlbv f_hb⟩ | exact ⟨keepc hb1 hl2 f_A, keepc hb1 hl0 f_n2, keepc hb1 hlbv f_hb⟩ | exact ⟨keepS hb1 hl2 (by omega) f_A, keepS hb1 hl0 (by omega) f_n2, keepS hb1 hlbv (by omega) f_hb⟩
 clear hK K
 (try simp only [Act.put, zq1, zq2, zq3])
 refine wpAnyH_ready (rs := [8]) (by kernel_rfl) (by simp) ?_
 refine .cons (o := _) rfl (fun K hK => ?_) .nil
 go_simp
 refine (c_l4One 1 (HRES.out _ (by rw [show nodeVal ns _ vs = _ from HEQ.out]; exact List.mem_singleton_self _)) _).mono ?_; rintro e w1 ⟨x, rfl, hox, hq⟩; have hb1 : Below w0.heap.size w0 w1 := hb2.trans (hq.mono hb2.size); have HNW1 := hid (HNW.out.below hb1); clear HNW; have HNW := HNW1; obtain ⟨xa, xc, rfl, -⟩ := own_form hox; have HOX := hid (show w1.ownsInts w0.heap.size 3 .i64 (.slice xa [1].length xc) [1] from World.ownsInts.mono' hox hb2.size); have s0 := cell_of_block (i := 0) HNW.out.b1 (v := .slice none 0 0) rfl; have s1 := free_of_block (i := 0) HNW.out.b1; clear hox hq r0 r1
 (try go_wp2_with fail)
 (try clear hHeld)
 refine hK.out _ _ ?_ (fun hHeld => ?_)
 ·first | exact ⟨f_A, f_n2, f_hb⟩ | exact ⟨keepc hb2 hl2 f_A, keepc hb2 hl0 f_n2, keepc hb2 hlbv f_hb⟩ | exact ⟨keepc hb1 hl2 f_A, keepc hb1 hl0 f_n2, keepc hb1 hlbv f_hb⟩ | exact ⟨keepS hb1 hl2 (by omega) f_A, keepS hb1 hl0 (by omega) f_n2, keepS hb1 hlbv (by omega) f_hb⟩
 clear hK K
 (try simp only [Act.put, zq1, zq2, zq3])
 refine wpAnyH_ready (rs := [9]) (by kernel_rfl) (by simp) ?_
 refine .cons (o := _) rfl (fun K hK => ?_) .nil
 go_simp
 (try clear hHeld)
 refine hK.out _ _ ?_ (fun hHeld => ?_)
 ·first | exact ⟨f_A, f_n2, f_hb⟩ | exact ⟨keepc hb2 hl2 f_A, keepc hb2 hl0 f_n2, keepc hb2 hlbv f_hb⟩ | exact ⟨keepc hb1 hl2 f_A, keepc hb1 hl0 f_n2, keepc hb1 hlbv f_hb⟩ | exact ⟨keepS hb1 hl2 (by omega) f_A, keepS hb1 hl0 (by omega) f_n2, keepS hb1 hlbv (by omega) f_hb⟩
 clear hK K
 (try simp only [Act.put, zq1, zq2, zq3])
 refine wpAnyH_done (by kernel_rfl) ?_ _
 clear hHeld
 go_wp2_with fail
 exact bodyPost_ret (v := .agg _) (results_cell_row rfl _ _ (w.heap.size + 1) 69 _ (0, 0) _ rfl (heap_setCell_same _ _ 0 _ _ (.slice xa [1].length xc) HNW.out.b1) Tryz.underlying69 rfl (by kernel_rfl)) rfl
  ⟨_, rfl, by have := HEQ.out; unfold NdIs at this; rw [this]; exact nd_own hlt HOX.out _, HNW.out.B.setCell (p := ⟨w.heap.size + 1, 0, none⟩) (Nat.le_succ _) _⟩
set_option maxHeartbeats 8000000 in
theorem c_l4Node21f {B : Nat} {a0' : Option Addr} {l0 p0 : Nat} {ns : List ND} {va : Option Addr} {vl vc : Nat} {vs : List (List Int)} (x : ND) (w : World) (hBw : B ≤ w.heap.size) (h : NodesAt B w a0' l0 p0 ns) (hv : ValsAt B w va vl vc vs) (hvl : vl ≤ l0) (hin : NodeIn vs vl x) (h1 : 1 ≤ pcN x.kind) (hs : ∀ i, i < vl → (vs.getD i []).length ≤ 4) (hres : ∀ z ∈ nodeVal ns x vs, fits z) (hk : x.kind = 21) (hab : ¬ vs.getD x.a.toNat [] = vs.getD x.b.toNat []) :
  Calls Tryz.prog 87 #[.slice a0' l0 p0, .agg x.cells.toArray, .slice va vl vc] w (ValP (nodeVal ns x vs) w) := by
 obtain ⟨k0, pa, pb, pc, n, m, si, sw, nm⟩ := x
 simp only [ND.cells] at *
 subst hk
 have HN := hid h
 have HV := hid hv
 have HS := hid hs
 have hpa := hin.pa h1
 obtain ⟨bv, ov, rfl, hbv⟩ := vals_form hv (show 0 < vl by have := hpa.2.1; omega)
 obtain ⟨qa, la, ca, ba, oa, hqa, hqal, hla, hbaB, f_ha, hza, f_za⟩ := part_at hv hpa
 simp only at hqa
 subst hqa
 obtain ⟨nda, bn, on, hnda, rfl, hbn, hcn⟩ := kind_at h (show qa < l0 by omega)
 obtain ⟨-, -, -, -, -, -, -, d7, -⟩ := node_cells hcn
 obtain ⟨wa, hwa⟩ : ∃ wa, nda.sw = wa := ⟨_, rfl⟩
 rw [hwa] at d7
 have HWA := hid (show (sortAt ns (qa : Int)).2 = wa by unfold sortAt; rw [Int.toNat_natCast, hnda]; exact hwa)
 have hm : vl ≤ maxLen := hv.le
 have hm2 : l0 ≤ maxLen := Nat.le_trans h.2.1 h.2.2.1
 unfold maxLen at hm hm2
 have hlam := hs qa hqal
 have hlal : (vs.getD qa []).length = la := hza.1
 have hla4 : la ≤ 4 := by omega
 obtain ⟨zas, hzas⟩ : ∃ zs, vs.getD qa [] = zs := ⟨_, rfl⟩
 obtain ⟨a0, ha0⟩ : ∃ z, zas.getD 0 0 = z := ⟨_, rfl⟩
 rw [hzas, ha0] at f_za
 have HZAS := hid hzas
 have HA0 := hid ha0
 have HIN := hid hin
 have HRES := hid hres
 have hqai : (qa : Int) < vl := by omega
 have hqai2 : (qa : Int) < l0 := by omega
 clear h hv hs hpa hnda hcn hwa hza hlal hlam hzas ha0 hin hres
 go_enter Tryz.func87, Tryz.ntmps87
 go_upto_region 1 with fail
 refine code_gen (R := fun wb => NdV #[.int .i64 21, .int .i64 (qa : Int), .int .i64 pb, .int .i64 pc, .int .i64 n, .int .i64 m, .int .i64 si, .int .i64 sw, .string nm] w wb) (NdV.start _ _) ?_
 intro wv hnv
 have HNV := hid hnv
 have g1 := cell_of_block (i := 1) hnv.b0 (v := .int .i64 (qa : Int)) rfl
 have g2 := (hnv.B.cell (p := ⟨bv, ov + qa, none⟩) (by show bv < w.heap.size; omega)).trans f_ha
 clear hnv
 go_upto_region 2 with fail
 refine code_gen (R := fun wb => NdW #[.int .i64 21, .int .i64 (qa : Int), .int .i64 pb, .int .i64 pc, .int .i64 n, .int .i64 m, .int .i64 si, .int .i64 sw, .string nm] (.slice (some ⟨ba, oa, none⟩) la ca) w wb) (HNV.out.next _) ?_
 intro w0 hnw
 rw [HNV.out.sz]
 have g3 := cell_of_block (i := 1) hnw.b0 (v := .int .i64 (qa : Int)) rfl
 have g4 := (hnw.B.cell (p := ⟨bn, on + qa * 9 + 7, none⟩) (by show bn < w.heap.size; omega)).trans d7
 clear g1 g2 HNV
 go_upto_region 3 with fail
 clear g3 g4
 have HNW := hid hnw
 have hlt := hnw.lt
 have HV0 := hid (HV.out.below (hnw.B.mono hBw))
 have HN0 := hid (HN.out.rows.below (hnw.B.mono hBw)).nodes
 have f_n0 := cell_of_block (i := 0) hnw.b0 (v := .int .i64 21) rfl
 have f_n4 := cell_of_block (i := 4) hnw.b0 (v := .int .i64 n) rfl
 have f_n5 := cell_of_block (i := 5) hnw.b0 (v := .int .i64 m) rfl
 have f_A := cell_of_block (i := 0) hnw.b2 (v := .slice (some ⟨ba, oa, none⟩) la ca) rfl
 have r0 := cell_of_block (i := 0) hnw.b1 (v := .slice none 0 0) rfl
 have r1 := free_of_block (i := 0) hnw.b1
 have f_za0 := f_za
 replace f_za := (hnw.B.cell (p := ⟨ba, oa, none⟩) (by show ba < w.heap.size; omega)).trans f_za
 have hl0 : w.heap.size < w0.heap.size := by omega
 have hl2 : w.heap.size + 2 < w0.heap.size := hlt
 have hlba : ba < w0.heap.size := by omega
 have hlbv : bv < w0.heap.size := by omega
 have hlbn : bn < w0.heap.size := by omega
 have hzaI := hid (show IntsAt B w0 (some ⟨ba, oa, none⟩) la ca zas from by
  obtain ⟨a', l', c', b', o', e, -, hc', hz'⟩ := val_at HV0.out hqal
  injection e with e
  injection e with e1 e2
  subst e1; subst e2
  have := (hnw.B.cell (p := ⟨bv, ov + qa, none⟩) (by show bv < w.heap.size; omega)).trans f_ha
  rw [hc'] at this
  simp only [Option.some.injEq, Value.slice.injEq] at this
  obtain ⟨rfl, rfl, rfl⟩ := this
  rw [HZAS.out] at hz'
  exact hz')
 have HNW2 := hid (show w0.heap[w.heap.size]? = some (.cells #[.int .i64 21, .int .i64 (qa : Int), .int .i64 pb, .int .i64 pc, .int .i64 n, .int .i64 m, .int .i64 si, .int .i64 sw, .string nm] 111 (0, 0)) from hnw.b0)
 clear hnw f_ha d7 f_za0
 have hin := HIN.out
 have f_n2 := cell_of_block (i := 2) HNW2.out (v := .int .i64 pb) rfl
 obtain ⟨qb, lb, cb, bb, ob, hqb, hqbl, hlb, hbB, f_hb, hzb, f_zb⟩ := part_at HV0.out (hin.pb (by show 2 ≤ pcN 21; decide))
 simp only at hqb
 subst hqb
 have hlbb : bb < w0.heap.size := by omega
 obtain ⟨zbs, hzbs⟩ : ∃ zs, vs.getD qb [] = zs := ⟨_, rfl⟩
 have hlb4 : lb ≤ 4 := by have h1 := HS.out qb hqbl; have h2 := hzb.1; omega
 obtain ⟨b0, hb0⟩ : ∃ z, zbs.getD 0 0 = z := ⟨_, rfl⟩
 rw [hzbs] at hzb f_zb
 rw [hb0] at f_zb
 have HZBS := hid hzbs
 have HB0 := hid hb0
 have HZB := hid hzb
 have hqbi : (qb : Int) < vl := by omega
 have hqbi2 : (qb : Int) < l0 := by omega
 clear hin hzb hzbs hb0
 have HEQ := hid (show NdIs ns ⟨21, qa, qb, pc, n, m, si, sw, nm⟩ vs [0] from nv21f rfl hab)
 simp only [Int.toNat_natCast] at hab
 rw [HZAS.out, HZBS.out] at hab
 have hsl : zas.length = zbs.length := by
  have := HIN.out.same rfl
  simp only [Int.toNat_natCast] at this
  rw [HZAS.out, HZBS.out] at this
  exact this
 have HAB := hid hab
 clear hab
 go_upto_region 16 with fail
 refine wp_region_held_drew (S := (fun w' => w'.cell? ⟨w.heap.size + 2, 0, none⟩ = some (.slice (some ⟨ba, oa, none⟩) la ca) ∧ w'.cell? ⟨w.heap.size, 2, none⟩ = some (.int .i64 (qb : Int)) ∧ w'.cell? ⟨bv, ov + qb, none⟩ = some (.slice (some ⟨bb, ob, none⟩) lb cb))) (by kernel_rfl) ?_ (fun hHeld => ?_)
 ·first | exact ⟨f_A, f_n2, f_hb⟩ | exact ⟨keepc hb2 hl2 f_A, keepc hb2 hl0 f_n2, keepc hb2 hlbv f_hb⟩ | exact ⟨keepc hb1 hl2 f_A, keepc hb1 hl0 f_n2, keepc hb1 hlbv f_hb⟩ | exact ⟨keepS hb1 hl2 (by omega) f_A, keepS hb1 hl0 (by omega) f_n2, keepS hb1 hlbv (by omega) f_hb⟩
 refine tL 0 (some 111) ?_
 refine tL 1 (some 112) ?_
 refine tL 2 (some 113) ?_
 refine tL 3 (some 114) ?_
 refine tL 4 (some 115) ?_
 refine tL 5 (some 116) ?_
 refine wpAnyH_ready (rs := [6]) (by kernel_rfl) (by simp) ?_
 refine .cons (o := _) rfl (fun K hK => ?_) .nil
 go_simp
 refine (c_l4Same (B := B) _ (Nat.le_trans (show B ≤ w0.heap.size by omega) (by first | exact Nat.le_refl _ | go_size)) (hzaI.out.below (Below.mono (show Below w0.heap.size w0 _ by go_grown) (by omega))) (HZB.out.below (Below.mono (show Below w0.heap.size w0 _ by go_grown) (by omega))) hsl).mono ?_; rintro e w2 ⟨he, hq⟩; obtain rfl := boolIs_f HAB.out he; have hb2 : Below w0.heap.size w0 w2 := ⟨hq.os, hq.tape, hq.output, hq.size, hq.block⟩; clear he hq
 (try go_wp2_with fail)
 (try clear hHeld)
 refine hK.out _ _ ?_ (fun hHeld => ?_)
 ·first | exact ⟨f_A, f_n2, f_hb⟩ | exact ⟨keepc hb2 hl2 f_A, keepc hb2 hl0 f_n2, keepc hb2 hlbv f_hb⟩ | exact ⟨keepc hb1 hl2 f_A, keepc hb1 hl0 f_n2, keepc hb1 hlbv f_hb⟩ | exact ⟨keepS hb1 hl2 (by omega) f_A, keepS hb1 hl0 (by omega) f_n2, keepS hb1 hlbv (by omega) f_hb⟩
 clear hK K
 (try simp only [Act.put, zq1, zq2, zq3])
 refine wpAnyH_ready (rs := [7]) (by kernel_rfl) (by simp) ?_
 refine .cons (o := _) rfl (fun K hK => ?_) .nil
 go_simp
 refine (c_l1Yes false _).mono ?_; rintro e w3 ⟨rfl, rfl⟩
 (try go_wp2_with fail)
 (try clear hHeld)
 refine hK.out _ _ ?_ (fun hHeld => ?_)
 ·first | exact ⟨f_A, f_n2, f_hb⟩ | exact ⟨keepc hb2 hl2 f_A, keepc hb2 hl0 f_n2, keepc hb2 hlbv f_hb⟩ | exact ⟨keepc hb1 hl2 f_A, keepc hb1 hl0 f_n2, keepc hb1 hlbv f_hb⟩ | exact ⟨keepS hb1 hl2 (by omega) f_A, keepS hb1 hl0 (by omega) f_n2, keepS hb1 hlbv (by omega) f_hb⟩
 clear hK K
 (try simp only [Act.put, zq1, zq2, zq3])
 refine wpAnyH_ready (rs := [8]) (by kernel_rfl) (by simp) ?_
 refine .cons (o := _) rfl (fun K hK => ?_) .nil
 go_simp
 refine (c_l4One 0 (HRES.out _ (by rw [show nodeVal ns _ vs = _ from HEQ.out]; exact List.mem_singleton_self _)) _).mono ?_; rintro e w1 ⟨x, rfl, hox, hq⟩; have hb1 : Below w0.heap.size w0 w1 := hb2.trans (hq.mono hb2.size); have HNW1 := hid (HNW.out.below hb1); clear HNW; have HNW := HNW1; obtain ⟨xa, xc, rfl, -⟩ := own_form hox; have HOX := hid (show w1.ownsInts w0.heap.size 3 .i64 (.slice xa [0].length xc) [0] from World.ownsInts.mono' hox hb2.size); have s0 := cell_of_block (i := 0) HNW.out.b1 (v := .slice none 0 0) rfl; have s1 := free_of_block (i := 0) HNW.out.b1; clear hox hq r0 r1
 (try go_wp2_with fail)
 (try clear hHeld)
 refine hK.out _ _ ?_ (fun hHeld => ?_)
 ·first | exact ⟨f_A, f_n2, f_hb⟩ | exact ⟨keepc hb2 hl2 f_A, keepc hb2 hl0 f_n2, keepc hb2 hlbv f_hb⟩ | exact ⟨keepc hb1 hl2 f_A, keepc hb1 hl0 f_n2, keepc hb1 hlbv f_hb⟩ | exact ⟨keepS hb1 hl2 (by omega) f_A, keepS hb1 hl0 (by omega) f_n2, keepS hb1 hlbv (by omega) f_hb⟩
 clear hK K
 (try simp only [Act.put, zq1, zq2, zq3])
 refine wpAnyH_ready (rs := [9]) (by kernel_rfl) (by simp) ?_
 refine .cons (o := _) rfl (fun K hK => ?_) .nil
 go_simp
 (try clear hHeld)
 refine hK.out _ _ ?_ (fun hHeld => ?_)
 ·first | exact ⟨f_A, f_n2, f_hb⟩ | exact ⟨keepc hb2 hl2 f_A, keepc hb2 hl0 f_n2, keepc hb2 hlbv f_hb⟩ | exact ⟨keepc hb1 hl2 f_A, keepc hb1 hl0 f_n2, keepc hb1 hlbv f_hb⟩ | exact ⟨keepS hb1 hl2 (by omega) f_A, keepS hb1 hl0 (by omega) f_n2, keepS hb1 hlbv (by omega) f_hb⟩
 clear hK K
 (try simp only [Act.put, zq1, zq2, zq3])
 refine wpAnyH_done (by kernel_rfl) ?_ _
 clear hHeld
 go_wp2_with fail
 exact bodyPost_ret (v := .agg _) (results_cell_row rfl _ _ (w.heap.size + 1) 69 _ (0, 0) _ rfl (heap_setCell_same _ _ 0 _ _ (.slice xa [0].length xc) HNW.out.b1) Tryz.underlying69 rfl (by kernel_rfl)) rfl
  ⟨_, rfl, by have := HEQ.out; unfold NdIs at this; rw [this]; exact nd_own hlt HOX.out _, HNW.out.B.setCell (p := ⟨w.heap.size + 1, 0, none⟩) (Nat.le_succ _) _⟩
set_option maxHeartbeats 8000000 in
theorem c_l4Node38 {B : Nat} {a0' : Option Addr} {l0 p0 : Nat} {ns : List ND} {va : Option Addr} {vl vc : Nat} {vs : List (List Int)} (x : ND) (w : World) (hBw : B ≤ w.heap.size) (h : NodesAt B w a0' l0 p0 ns) (hv : ValsAt B w va vl vc vs) (hvl : vl ≤ l0) (hin : NodeIn vs vl x) (h1 : 1 ≤ pcN x.kind) (hs : ∀ i, i < vl → (vs.getD i []).length ≤ 4) (hres : ∀ z ∈ nodeVal ns x vs, fits z) (hk : x.kind = 38) :
  Calls Tryz.prog 87 #[.slice a0' l0 p0, .agg x.cells.toArray, .slice va vl vc] w (ValP (nodeVal ns x vs) w) := by
 obtain ⟨k0, pa, pb, pc, n, m, si, sw, nm⟩ := x
 simp only [ND.cells] at *
 subst hk
 have HN := hid h
 have HV := hid hv
 have HS := hid hs
 have hpa := hin.pa h1
 obtain ⟨bv, ov, rfl, hbv⟩ := vals_form hv (show 0 < vl by have := hpa.2.1; omega)
 obtain ⟨qa, la, ca, ba, oa, hqa, hqal, hla, hbaB, f_ha, hza, f_za⟩ := part_at hv hpa
 simp only at hqa
 subst hqa
 obtain ⟨nda, bn, on, hnda, rfl, hbn, hcn⟩ := kind_at h (show qa < l0 by omega)
 obtain ⟨-, -, -, -, -, -, -, d7, -⟩ := node_cells hcn
 obtain ⟨wa, hwa⟩ : ∃ wa, nda.sw = wa := ⟨_, rfl⟩
 rw [hwa] at d7
 have HWA := hid (show (sortAt ns (qa : Int)).2 = wa by unfold sortAt; rw [Int.toNat_natCast, hnda]; exact hwa)
 have hm : vl ≤ maxLen := hv.le
 have hm2 : l0 ≤ maxLen := Nat.le_trans h.2.1 h.2.2.1
 unfold maxLen at hm hm2
 have hlam := hs qa hqal
 have hlal : (vs.getD qa []).length = la := hza.1
 have hla4 : la ≤ 4 := by omega
 obtain ⟨zas, hzas⟩ : ∃ zs, vs.getD qa [] = zs := ⟨_, rfl⟩
 obtain ⟨a0, ha0⟩ : ∃ z, zas.getD 0 0 = z := ⟨_, rfl⟩
 rw [hzas, ha0] at f_za
 have HZAS := hid hzas
 have HA0 := hid ha0
 have HIN := hid hin
 have HRES := hid hres
 have hqai : (qa : Int) < vl := by omega
 have hqai2 : (qa : Int) < l0 := by omega
 clear h hv hs hpa hnda hcn hwa hza hlal hlam hzas ha0 hin hres
 go_enter Tryz.func87, Tryz.ntmps87
 go_upto_region 1 with fail
 refine code_gen (R := fun wb => NdV #[.int .i64 38, .int .i64 (qa : Int), .int .i64 pb, .int .i64 pc, .int .i64 n, .int .i64 m, .int .i64 si, .int .i64 sw, .string nm] w wb) (NdV.start _ _) ?_
 intro wv hnv
 have HNV := hid hnv
 have g1 := cell_of_block (i := 1) hnv.b0 (v := .int .i64 (qa : Int)) rfl
 have g2 := (hnv.B.cell (p := ⟨bv, ov + qa, none⟩) (by show bv < w.heap.size; omega)).trans f_ha
 clear hnv
 go_upto_region 2 with fail
 refine code_gen (R := fun wb => NdW #[.int .i64 38, .int .i64 (qa : Int), .int .i64 pb, .int .i64 pc, .int .i64 n, .int .i64 m, .int .i64 si, .int .i64 sw, .string nm] (.slice (some ⟨ba, oa, none⟩) la ca) w wb) (HNV.out.next _) ?_
 intro w0 hnw
 rw [HNV.out.sz]
 have g3 := cell_of_block (i := 1) hnw.b0 (v := .int .i64 (qa : Int)) rfl
 have g4 := (hnw.B.cell (p := ⟨bn, on + qa * 9 + 7, none⟩) (by show bn < w.heap.size; omega)).trans d7
 clear g1 g2 HNV
 go_upto_region 3 with fail
 clear g3 g4
 have HNW := hid hnw
 have hlt := hnw.lt
 have HV0 := hid (HV.out.below (hnw.B.mono hBw))
 have HN0 := hid (HN.out.rows.below (hnw.B.mono hBw)).nodes
 have f_n0 := cell_of_block (i := 0) hnw.b0 (v := .int .i64 38) rfl
 have f_n4 := cell_of_block (i := 4) hnw.b0 (v := .int .i64 n) rfl
 have f_n5 := cell_of_block (i := 5) hnw.b0 (v := .int .i64 m) rfl
 have f_A := cell_of_block (i := 0) hnw.b2 (v := .slice (some ⟨ba, oa, none⟩) la ca) rfl
 have r0 := cell_of_block (i := 0) hnw.b1 (v := .slice none 0 0) rfl
 have r1 := free_of_block (i := 0) hnw.b1
 have f_za0 := f_za
 replace f_za := (hnw.B.cell (p := ⟨ba, oa, none⟩) (by show ba < w.heap.size; omega)).trans f_za
 have hl0 : w.heap.size < w0.heap.size := by omega
 have hl2 : w.heap.size + 2 < w0.heap.size := hlt
 have hlba : ba < w0.heap.size := by omega
 have hlbv : bv < w0.heap.size := by omega
 have hlbn : bn < w0.heap.size := by omega
 have hzaI := hid (show IntsAt B w0 (some ⟨ba, oa, none⟩) la ca zas from by
  obtain ⟨a', l', c', b', o', e, -, hc', hz'⟩ := val_at HV0.out hqal
  injection e with e
  injection e with e1 e2
  subst e1; subst e2
  have := (hnw.B.cell (p := ⟨bv, ov + qa, none⟩) (by show bv < w.heap.size; omega)).trans f_ha
  rw [hc'] at this
  simp only [Option.some.injEq, Value.slice.injEq] at this
  obtain ⟨rfl, rfl, rfl⟩ := this
  rw [HZAS.out] at hz'
  exact hz')
 have HNW2 := hid (show w0.heap[w.heap.size]? = some (.cells #[.int .i64 38, .int .i64 (qa : Int), .int .i64 pb, .int .i64 pc, .int .i64 n, .int .i64 m, .int .i64 si, .int .i64 sw, .string nm] 111 (0, 0)) from hnw.b0)
 clear hnw f_ha d7 f_za0
 have hin := HIN.out
 have f_n2 := cell_of_block (i := 2) HNW2.out (v := .int .i64 pb) rfl
 obtain ⟨qb, lb, cb, bb, ob, hqb, hqbl, hlb, hbB, f_hb, hzb, f_zb⟩ := part_at HV0.out (hin.pb (by show 2 ≤ pcN 38; decide))
 simp only at hqb
 subst hqb
 have hlbb : bb < w0.heap.size := by omega
 obtain ⟨zbs, hzbs⟩ : ∃ zs, vs.getD qb [] = zs := ⟨_, rfl⟩
 have hlb4 : lb ≤ 4 := by have h1 := HS.out qb hqbl; have h2 := hzb.1; omega
 obtain ⟨b0, hb0⟩ : ∃ z, zbs.getD 0 0 = z := ⟨_, rfl⟩
 rw [hzbs] at hzb f_zb
 rw [hb0] at f_zb
 have HZBS := hid hzbs
 have HB0 := hid hb0
 have HZB := hid hzb
 have hqbi : (qb : Int) < vl := by omega
 have hqbi2 : (qb : Int) < l0 := by omega
 clear hin hzb hzbs hb0
 have hin := HIN.out
 have f_n3 := cell_of_block (i := 3) HNW2.out (v := .int .i64 pc) rfl
 obtain ⟨qc, lc, cc, bc, oc, hqc, hqcl, hlc, hcB, f_hc, hzc, f_zc⟩ := part_at HV0.out (hin.pc3 (by show 3 ≤ pcN 38; decide))
 simp only at hqc
 subst hqc
 have hlbc : bc < w0.heap.size := by omega
 obtain ⟨zcs, hzcs⟩ : ∃ zs, vs.getD qc [] = zs := ⟨_, rfl⟩
 have hlc4 : lc ≤ 4 := by have h1 := HS.out qc hqcl; have h2 := hzc.1; omega
 obtain ⟨c0, hc0⟩ : ∃ z, zcs.getD 0 0 = z := ⟨_, rfl⟩
 rw [hzcs] at hzc f_zc
 rw [hc0] at f_zc
 have HZCS := hid hzcs
 have HC0 := hid hc0
 have HZC := hid hzc
 have hqci : (qc : Int) < vl := by omega
 clear hin hzc hzcs hc0
 have hix : 0 ≤ b0 ∧ b0.toNat < zas.length := by
  have := HIN.out.idx (.inr rfl)
  simp only [Int.toNat_natCast] at this
  rw [HZAS.out, HZBS.out, HB0.out] at this
  exact this
 have hzl : zas.length = la := hzaI.out.1
 obtain ⟨ib, rfl⟩ : ∃ ib : Nat, b0 = ib := ⟨b0.toNat, by omega⟩
 have hib : ib < zas.length := by omega
 have hibi : (ib : Int) < zas.length := by omega
 have HEQ := hid (show NdIs ns ⟨38, qa, qb, qc, n, m, si, sw, nm⟩ vs (zas.set ib c0) from (nv38 rfl).trans (by
  simp only [Int.toNat_natCast]
  rw [HZAS.out, HZBS.out, HZCS.out, HB0.out, HC0.out, Int.toNat_natCast]))
 have HFC := hid (show fits c0 from HRES.out _ (by rw [show nodeVal ns _ vs = _ from HEQ.out]; exact List.mem_set hib _))
 have hz4 : zas.length ≤ 4 := by omega
 clear hix hzl
 go_wp2_with fail
 refine (c_l4Copy (B := w0.heap.size) w0 (Nat.le_refl _) (hzaI.out.mono (by omega)) (by omega)).mono ?_
 rintro e w1 ⟨x, rfl, hox, hq⟩
 obtain ⟨gx, xc, rfl, hgx, hgl⟩ := hox.1.form (show 0 < zas.length by omega)
 have HOX := hid hox
 have HQ1 := hid hq
 clear hox hq
 go_upto_region 13 with fail
 refine code_gen (R := fun wb => wb.heap[w1.heap.size]? = some (.cells #[.slice (some ⟨gx, 0, none⟩) zas.length xc] 69 (0, 0)) ∧ Below w1.heap.size w1 wb) ⟨by first | exact (MapKept.heap_alloc _ _).1 | simp, by go_grown⟩ ?_
 rintro w2 ⟨k1, hq2⟩
 have HK1 := hid k1
 have hb2 : Below w0.heap.size w0 w2 := HQ1.out.trans (hq2.mono HQ1.out.size)
 have HO2 := hid (ownI_below HOX.out hq2)
 have HNW2' := hid (HNW.out.below hb2)
 have p_10 := cell_of_block (i := 0) k1 (v := .slice (some ⟨gx, 0, none⟩) zas.length xc) rfl
 have hl10 : w1.heap.size < w2.heap.size := (Array.getElem?_eq_some_iff.1 k1).1
 have hg10 : gx < w1.heap.size := hgl
 have hs02 := hb2.size
 have p_n2 := keepc hb2 hl0 f_n2
 have p_hb := keepc hb2 hlbv f_hb
 have p_zb := keepc hb2 hlbb f_zb
 have p_n3 := keepc hb2 hl0 f_n3
 have p_hc := keepc hb2 hlbv f_hc
 have p_zc := keepc hb2 hlbc f_zc
 have z0 := HO2.out.1.cellAt ib (by simpa using hib)
 have z1 := HO2.out.1.frozenAt ib
 rw [show (zas.map (Value.int .i64))[ib]? = some (.int .i64 (zas.getD ib 0)) by simp [List.getD, hib]] at z0
 have h20 : w.heap.size < w2.heap.size := by omega
 have h2v : bv < w2.heap.size := by omega
 have h2b : bb < w2.heap.size := by omega
 have h2c : bc < w2.heap.size := by omega
 clear k1 hq2 r0 r1 f_n2 f_hb f_zb f_n3 f_hc f_zc f_A f_za f_n0 f_n4 f_n5
 go_upto_region 13 with fail
 refine wp_region_held_drew (S := (fun w' => w'.cell? ⟨w1.heap.size, 0, none⟩ = some (.slice (some ⟨gx, 0, none⟩) zas.length xc) ∧ w'.cell? ⟨w.heap.size, 2, none⟩ = some (.int .i64 (qb : Int)) ∧ w'.cell? ⟨bv, ov + qb, none⟩ = some (.slice (some ⟨bb, ob, none⟩) lb cb) ∧ w'.cell? ⟨bb, ob, none⟩ = some (.int .i64 (ib : Int)) ∧ w'.cell? ⟨w.heap.size, 3, none⟩ = some (.int .i64 (qc : Int)) ∧ w'.cell? ⟨bv, ov + qc, none⟩ = some (.slice (some ⟨bc, oc, none⟩) lc cc) ∧ w'.cell? ⟨bc, oc, none⟩ = some (.int .i64 c0))) (by kernel_rfl) ?_ (fun hHeld => ?_)
 ·first | exact ⟨p_10, p_n2, p_hb, p_zb, p_n3, p_hc, p_zc⟩ | exact ⟨keepS (by first | exact Below.refl _ _ | exact (Below.refl _ _).drew) hl10 (by omega) p_10, keepS (by first | exact Below.refl _ _ | exact (Below.refl _ _).drew) h20 (by omega) p_n2, keepS (by first | exact Below.refl _ _ | exact (Below.refl _ _).drew) h2v (by omega) p_hb, keepS (by first | exact Below.refl _ _ | exact (Below.refl _ _).drew) h2b (by omega) p_zb, keepS (by first | exact Below.refl _ _ | exact (Below.refl _ _).drew) h20 (by omega) p_n3, keepS (by first | exact Below.refl _ _ | exact (Below.refl _ _).drew) h2v (by omega) p_hc, keepS (by first | exact Below.refl _ _ | exact (Below.refl _ _).drew) h2c (by omega) p_zc⟩
 refine tL 0 (some 87) ?_
 refine tL 1 (some 88) ?_
 refine tL 2 (some 89) ?_
 refine tL 3 (some 90) ?_
 refine tL 4 (some 91) ?_
 refine tL 5 (some 92) ?_
 refine tL 6 (some 93) ?_
 refine tL 7 (some 94) ?_
 refine tL 8 (some 95) ?_
 refine tL 9 (some 96) ?_
 refine tL 10 (some 97) ?_
 refine tL 11 (some 98) ?_
 refine tL 12 (some 99) ?_
 refine tL 13 (some 100) ?_
 refine tL 14 (some 101) ?_
 refine tL 15 (some 102) ?_
 refine tL 16 (some 103) ?_
 refine tL 17 (some 104) ?_
 refine tL 18 (some 105) ?_
 refine wpAnyH_ready (rs := [19]) (by kernel_rfl) (by simp) ?_
 refine .cons (o := _) rfl (fun K hK => ?_) .nil
 go_simp
 (try clear hHeld)
 refine hK.out _ _ ?_ (fun hHeld => ?_)
 ·first | exact ⟨p_10, p_n2, p_hb, p_zb, p_n3, p_hc, p_zc⟩ | exact ⟨keepS (by first | exact Below.refl _ _ | exact (Below.refl _ _).drew) hl10 (by omega) p_10, keepS (by first | exact Below.refl _ _ | exact (Below.refl _ _).drew) h20 (by omega) p_n2, keepS (by first | exact Below.refl _ _ | exact (Below.refl _ _).drew) h2v (by omega) p_hb, keepS (by first | exact Below.refl _ _ | exact (Below.refl _ _).drew) h2b (by omega) p_zb, keepS (by first | exact Below.refl _ _ | exact (Below.refl _ _).drew) h20 (by omega) p_n3, keepS (by first | exact Below.refl _ _ | exact (Below.refl _ _).drew) h2v (by omega) p_hc, keepS (by first | exact Below.refl _ _ | exact (Below.refl _ _).drew) h2c (by omega) p_zc⟩
 clear hK K
 (try simp only [Act.put, zq1, zq2, zq3])
 refine wpAnyH_done (by kernel_rfl) ?_ _
 clear hHeld
 go_upto_region 14 with fail
 refine code_gen (R := fun wb => wb.heap[w1.heap.size]? = some (.cells #[.slice (some ⟨gx, 0, none⟩) zas.length xc] 69 (0, 0)) ∧ NdW #[.int .i64 38, .int .i64 (qa : Int), .int .i64 (qb : Int), .int .i64 (qc : Int), .int .i64 n, .int .i64 m, .int .i64 si, .int .i64 sw, .string nm] (.slice (some ⟨ba, oa, none⟩) la ca) w wb ∧ wb.ownsInts w0.heap.size 3 .i64 (.slice (some ⟨gx, 0, none⟩) zas.length xc) (zas.set ib c0)) ⟨?_, ⟨?_, ?_, ?_, ?_⟩, ?_⟩ ?_
 ·exact (heap_setCell_other _ _ _ _ (by show w1.heap.size ≠ gx; omega)).trans HK1.out
 ·exact (heap_setCell_other _ _ _ _ (by show w.heap.size ≠ gx; omega)).trans HNW2'.out.b0
 ·exact (heap_setCell_other _ _ _ _ (by show w.heap.size + 1 ≠ gx; omega)).trans HNW2'.out.b1
 ·exact (heap_setCell_other _ _ _ _ (by show w.heap.size + 2 ≠ gx; omega)).trans HNW2'.out.b2
 ·exact Below.setCell (p := ⟨gx, ib, none⟩) HNW2'.out.B.drew (by show w.heap.size ≤ gx; omega) _
 ·have hst := (HO2.out.1.stored ib (.int .i64 c0)).1
  refine ⟨?_, fun y hy => by
   rcases List.mem_or_eq_of_mem_set hy with hy | rfl
   ·exact HO2.out.2 y hy
   ·exact HFC.out⟩
  rw [List.map_set, List.length_set]
  exact hst
 rintro w3 ⟨k3, hn3, ho3⟩
 have HNWx := hid hn3
 clear HNW
 have HNW := HNWx
 have HOY := hid ho3
 have p_10' := cell_of_block (i := 0) k3 (v := .slice (some ⟨gx, 0, none⟩) zas.length xc) rfl
 have s0 := cell_of_block (i := 0) hn3.b1 (v := .slice none 0 0) rfl
 have s1 := free_of_block (i := 0) hn3.b1
 have HLS := hid (show (zas.set ib c0).length = zas.length from List.length_set)
 clear k3 hn3 ho3 p_10 p_n2 p_hb p_zb p_n3 p_hc p_zc z0 z1
 go_wp2_with fail
 exact bodyPost_ret (v := .agg _) (results_cell_row rfl _ _ (w.heap.size + 1) 69 _ (0, 0) _ rfl (heap_setCell_same _ _ 0 _ _ (.slice (some ⟨gx, 0, none⟩) zas.length xc) HNW.out.b1) Tryz.underlying69 rfl (by kernel_rfl)) rfl
  ⟨_, rfl, by have := HEQ.out; unfold NdIs at this; rw [this]; exact nd_own hlt HOY.out _, HNW.out.B.setCell (p := ⟨w.heap.size + 1, 0, none⟩) (Nat.le_succ _) _⟩
theorem c_l4Node {B : Nat} {a0' : Option Addr} {l0 p0 : Nat} {ns : List ND} {va : Option Addr} {vl vc : Nat} {vs : List (List Int)} (x : ND) (w : World) (hBw : B ≤ w.heap.size) (h : NodesAt B w a0' l0 p0 ns) (hv : ValsAt B w va vl vc vs) (hvl : vl ≤ l0) (hin : NodeIn vs vl x) (h1 : 1 ≤ pcN x.kind) (hs : ∀ i, i < vl → (vs.getD i []).length ≤ 4) (hres : ∀ z ∈ nodeVal ns x vs, fits z) :
  Calls Tryz.prog 87 #[.slice a0' l0 p0, .agg x.cells.toArray, .slice va vl vc] w (ValP (nodeVal ns x vs) w) := by
 have hc := kind_cases hin.pc
 by_cases h33 : x.kind = 33
 ·exact c_l4Node33 x w hBw h hv hvl hin h1 hs hres h33
 by_cases h37 : x.kind = 37
 ·exact c_l4Node37 x w hBw h hv hvl hin h1 hs hres h37
 by_cases h38 : x.kind = 38
 ·exact c_l4Node38 x w hBw h hv hvl hin h1 hs hres h38
 by_cases h21 : x.kind = 21
 ·by_cases hab : vs.getD x.a.toNat [] = vs.getD x.b.toNat []
  ·exact c_l4Node21t x w hBw h hv hvl hin h1 hs hres h21 hab
  ·exact c_l4Node21f x w hBw h hv hvl hin h1 hs hres h21 hab
 by_cases h29 : x.kind = 29
 ·exact c_l4Node29 x w hBw h hv hvl hin h1 hs hres h29
 by_cases h30 : x.kind = 30
 ·exact c_l4Node30 x w hBw h hv hvl hin h1 hs hres h30
 by_cases h31 : x.kind = 31
 ·exact c_l4Node31 x w hBw h hv hvl hin h1 hs hres h31
 by_cases h32 : x.kind = 32
 ·exact c_l4Node32 x w hBw h hv hvl hin h1 hs hres h32
 have h34 : ¬ (34 ≤ x.kind ∧ x.kind ≤ 36) := fun h' => by have := h1; unfold pcN at this; rw [if_pos h'] at this; omega
 by_cases h5 : x.kind ≤ 5
 ·exact c_l4Nodeone x w hBw h hv hvl hin h1 hs hres ⟨hc.1, h5⟩
 ·exact c_l4Nodetwo x w hBw h hv hvl hin h1 hs hres (by omega) h21
end Go.Proofs.YtlcgimadbpagfaaGreat
