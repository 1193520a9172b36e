/-
  Parts: EvA, EvD, shortened.
-/
import Derived.Test.YtlcgimadbpagfaaGreatZEvN3
namespace Go.Proofs.YtlcgimadbpagfaaGreat
open Go.Lib
open Go.ChangeShapes Go.WideShapes Go.ChangeAt Go.RowKit Go.Maps
set_option linter.unusedVariables false
set_option maxRecDepth 100000
def AllP (ns : List ND) (ss is : List (List Int)) (w : World) (e : Ending) (w' : World) : Prop := ∃ v xs, e = .returned v ∧ ValRow w.heap.size w' v xs ∧ xs.map Prod.snd = evs ns ss is ns.length ∧ Below w.heap.size w w'
def AlR (ns : List ND) (ss is : List (List Int)) (w w0 : World) (ov sv iv i : Value) (wr : World) : Prop := ∃ (k : Nat) (xs : List (Value × List Int)), k ≤ ns.length ∧ i = .int .i64 k ∧ sv = .int .i64 (plcs 36 ns k).length ∧ iv = .int .i64 (plcs 35 ns k).length ∧ ValRow (w.heap.size + 1) wr ov xs ∧ xs.map Prod.snd = evs ns ss is k ∧ Below (w.heap.size + 1) w0 wr
theorem wok_fits {n z : Int} (h : WOk n z) : fits z := WalkArith.wf_i64 (by have := h.lt; have := h.2.2.1; omega)
theorem fit_len {ns : List ND} {vs : List (List Int)} {k : Nat} (h : fitK ns vs k) : ∀ i, i < k → (vs.getD i []).length ≤ 4 := fun i hi => by
 have := (h i hi).1
 have := cellsN_bound (ns.getD i default).si (ns.getD i default).sw
 omega
theorem valOk_fits {si sw : Int} {zs : List Int} (h : valOk si sw zs) : ∀ z ∈ zs, fits z := fun z hz => by
 obtain ⟨j, hj, rfl⟩ := List.getElem_of_mem hz
 have := h.2 j hj
 rw [show zs.getD j 0 = zs[j] by simp [List.getD, hj]] at this
 exact wok_fits this
theorem boxed_below {s0 s1 s2 s3 s4 : SL} {w wr w' : World} (h : Boxed s0 s1 s2 s3 s4 w wr) (hb : Below (w.heap.size + 1) wr w') : Boxed s0 s1 s2 s3 s4 w w' := h.belowB hb (Nat.lt_succ_self _)
set_option maxHeartbeats 16000000 in
theorem c_l4All {B : Nat} {s0 s1 s2 s3 s4 : SL} {M : MD} {sa ia : Option Addr} {sl sc il ic : Nat} {ss is : List (List Int)} (w : World) (hBw : B ≤ w.heap.size) (h : ModelAt B w s0 s1 s2 s3 s4 M) (hs : ValsAt B w sa sl sc ss) (hi : ValsAt B w ia il ic is) (h60 : s0.len ≤ 60) (hg : nodesGood M.ns) (hfs : FitsN 36 M.ns ss) (hfi : FitsN 35 M.ns is) :
  Calls Tryz.prog 44 #[.agg (mcells s0 s1 s2 s3 s4).toArray, .slice sa sl sc, .slice ia il ic] w (AllP M.ns ss is w) := by
 have HMA := hid h
 have HSA := hid hs
 have HIA := hid hi
 have HG := hid hg
 have HFS := hid hfs
 have HFI := hid hfi
 obtain ⟨ns, hns⟩ : ∃ ns, M.ns = ns := ⟨_, rfl⟩
 have hnl : ns.length = s0.len := by rw [← hns]; exact h.ns.1
 rw [hns] at HG HFS HFI ⊢
 have HNS := hid hns
 have HEF := hid (fun (k : Nat) (hk : k ≤ ns.length) => evs_fit HG.out HFS.out HFI.out hk)
 obtain ⟨i2, hi2, hz02, hz12, hz22⟩ := info_parts valueInfo
 have HI2 := hid hi2
 have HZ02 := hid hz02
 have HZ12 := hid hz12
 have HZ22 := hid hz22
 have hssl : ss.length = sl := hs.length
 have hisl : is.length = il := hi.length
 have HSL := hid hssl
 have HIL := hid hisl
 have hslm := hs.le
 have hilm := hi.le
 unfold maxLen at hslm hilm
 clear h hs hi hg hfs hfi hns hi2 hz02 hz12 hz22 hssl hisl
 obtain ⟨a0, l0, p0⟩ := s0
 simp only [mcells] at *
 subst hnl
 go_enter Tryz.func44, Tryz.ntmps44
 go_upto_region 1 with fail
 refine code_gen (R := fun wb => Boxed ⟨a0, ns.length, p0⟩ s1 s2 s3 s4 w wb) (Boxed.new _ _ _ _ _ _ _) ?_
 intro w0 hbox
 have HX0 := hid hbox
 clear hbox
 go_wp2_with fail
 go_loopw [7, 8, 9, 10] (fun ov sv iv i wr => AlR ns ss is w w0 ov sv iv i wr) (fun _ _ _ i _ => ns.length - (intOf i).toNat)
 case atStart => exact ⟨0, [], by omega, rfl, rfl, rfl, ValRow.nil _ _, rfl, Below.refl _ _⟩
 case round =>
  obtain ⟨k, xs, hk, rfl, rfl, rfl, hv, hxs, hBr⟩ := hrel
  obtain ⟨wo, rfl⟩ : ∃ wo, wo = wr := ⟨_, rfl⟩
  have HV := hid hv
  have HXS := hid hxs
  have HBr := hid hBr
  have hxl : xs.length = k := by have := congrArg List.length hxs; rw [evs_len] at this; simpa using this
  have HXL := hid hxl
  have HXB := hid (boxed_below HX0.out hBr)
  have hlw : w.heap.size + 1 ≤ wo.heap.size := HXB.out.1
  obtain ⟨oa, oc, rfl⟩ := hv.len
  rw [hxl] at HV ⊢
  obtain ⟨ps, hps⟩ : ∃ ps, (plcs 36 ns k).length = ps := ⟨_, rfl⟩
  obtain ⟨pi, hpi⟩ : ∃ pi, (plcs 35 ns k).length = pi := ⟨_, rfl⟩
  have hps60 : ps ≤ k := by rw [← hps]; exact plcs_len _ _ _
  have hpi60 : pi ≤ k := by rw [← hpi]; exact plcs_len _ _ _
  rw [hps, hpi]
  have HPS := hid hps
  have HPI := hid hpi
  obtain ⟨hlt, g0, -, -, -, -, hBx⟩ := HXB.out
  have HBX := hid hBx
  clear hv hxs hBr hxl hps hpi hBx
  by_cases hkl : k < ns.length
  ·have hki : (k : Int) < ns.length := by omega
   obtain ⟨nd, b, off, hnd, rfl, hbB, hc⟩ := kind_at (HNS.out ▸ (HMA.out.ns.rows.below (HBX.out.mono hBw)).nodes) hkl
   obtain ⟨c0, c1, c2, c3, c4, c5, c6, c7, c8⟩ := node_cells hc
   have HND := hid hnd
   have HGK := hid (show nodeGood (ns.take k) nd from by have := HG.out k hkl; rw [hnd] at this; exact this)
   have HFK := hid (HEF.out k hk)
   have HP36 := hid (show plcs 36 ns (k + 1) = if nd.kind = 36 then plcs 36 ns k ++ [(k : Int)] else plcs 36 ns k by rw [plcs, hnd])
   have HP35 := hid (show plcs 35 ns (k + 1) = if nd.kind = 35 then plcs 35 ns k ++ [(k : Int)] else plcs 35 ns k by rw [plcs, hnd])
   have HEV := hid (show evs ns ss is (k + 1) = evs ns ss is k ++ [if nd.kind = 36 then ss.getD ps [] else if nd.kind = 35 then is.getD pi [] else nodeVal ns nd (evs ns ss is k)] by
    simp only [evs, valAt]; rw [hnd, HPS.out, HPI.out])
   clear hc hnd
   obtain ⟨k0, pa, pb, pc, n, m, si, sw, nm⟩ := nd
   simp only at c0 c1 c2 c3 c4 c5 c6 c7 c8 HP36 HP35 HEV
   go_upto_region 9 with fail
   refine code_gen (R := fun wb => NdV #[.int .i64 k0, .int .i64 pa, .int .i64 pb, .int .i64 pc, .int .i64 n, .int .i64 m, .int .i64 si, .int .i64 sw, .string nm] wo wb) (NdV.start _ _) ?_
   intro w1 hnv
   have HNV := hid hnv
   have n0 := cell_of_block (i := 0) hnv.b0 (v := .int .i64 k0) rfl
   have n4 := cell_of_block (i := 4) hnv.b0 (v := .int .i64 n) rfl
   have r0 := cell_of_block (i := 0) hnv.b1 (v := .slice none 0 0) rfl
   have r1 := free_of_block (i := 0) hnv.b1
   have hs1 := hnv.sz
   have HS1 := hid hs1
   have hss1 : wo.heap.size + 1 < w1.heap.size := by omega
   have HB1 := hid hnv.B
   have HW1 := hid (HBX.out.trans (hnv.B.mono HBX.out.size))
   have g1 := keepc hnv.B hlt g0
   clear hnv c0 c1 c2 c3 c4 c5 c6 c7 c8 hs1 g0
   by_cases h34 : k0 = 34
   ·subst h34
    have HFN := hid (show fits n from by
     have := (HGK.out.1.2.2.2.2.2.2)
     unfold kOk at this
     simp [namedB] at this
     exact wok_fits this.2)
    go_wp2_with fail
    refine (c_l4One n HFN.out w1).mono ?_
    rintro e w2 ⟨x, rfl, hox, hq⟩
    obtain ⟨xa, xc, rfl, -⟩ := own_form hox
    have HNV2 := hid (show w2.heap[wo.heap.size + 1]? = some (.cells #[.slice none 0 0] 69 (0, 0)) from (hq.block _ hss1).trans HNV.out.b1)
    have HOX := hid hox
    have HB2 := hid (HB1.out.trans (hq.mono HB1.out.size))
    have t0 := cell_of_block (i := 0) HNV2.out (v := .slice none 0 0) rfl
    have t1 := free_of_block (i := 0) HNV2.out
    have hs12 := hq.size
    clear hox hq n0 n4 r0 r1 g1
    go_upto_region 19 with fail
    refine code_gen (R := fun wb => wb.heap[wo.heap.size + 1]? = some (.cells #[.slice xa [n].length xc] 69 (0, 0)) ∧ wb.ownsInts w1.heap.size 3 .i64 (.slice xa [n].length xc) [n] ∧ Below wo.heap.size wo wb) ⟨heap_setCell_same _ _ 0 _ _ _ HNV2.out, own_block HOX.out (fun y hy _ _ => heap_setCell_other _ _ _ _ (by show y ≠ wo.heap.size + 1; omega)), Below.setCell (p := ⟨wo.heap.size + 1, 0, none⟩) HB2.out (Nat.le_succ _) _⟩ ?_
    rintro w3 ⟨k3, ho3, hb3⟩
    have HB3 := hid hb3
    have HO3 := hid (show w3.ownsInts (w.heap.size + 1) 3 .i64 (.slice xa [n].length xc) [n] from World.ownsInts.mono' ho3 (by omega))
    have HFR := hid (show ∀ y, Value.ownBlock (.slice xa [n].length xc) = some y → ¬ ValBlk _ xs y from fun y hy => HV.out.fresh (by have := (ho3.1.lt y hy).1; omega))
    have HV3 := hid (HV.out.below hb3)
    have HC1 := hid (own_oneCell HO3.out)
    have hw3 : w.heap.size + 1 ≤ w3.heap.size := by have := hb3.size; omega
    have v3 := cell_of_block (i := 0) k3 (v := .slice xa [n].length xc) rfl
    clear k3 ho3 hb3 t0 t1
    go_wp2_with (first | (at_builtin; refine wpList_append_own_at _ rfl _ _ 30 rfl (w.heap.size + 1) 69 i2 _ 1 24 Tryz.underlying30 HI2.out HZ02.out HZ12.out HZ22.out rfl (by decide) _ _ _ rfl (HV3.out.row.alloc _) ⟨w3.heap.size, 0, none⟩ 1 1 [.slice xa [n].length xc] rfl rfl (cell_one_new _ _ _) HC1.out (by unfold maxLen; have := HXL.out; omega) (by have := HXL.out; omega) (by simp; omega) ?_; intro v' w4 hown' hgrow' hnil hloc) | go_in)
    have HA := hid (HV3.out.push HO3.out HFR.out hown' hgrow' hloc)
    have HB4 := hid (((HBr.out.trans (HB3.out.mono hlw)).alloc hw3 _).grown hgrow' (by simp; omega) (fun y hy => (HV3.out.row.lt y hy).1))
    clear hown' hgrow' hnil hloc v3
    go_roundw
    case rel => exact ⟨k + 1, _, by omega, by go_num, by rw [HP36.out]; rw [if_neg (by omega), HPS.out], by rw [HP35.out]; rw [if_neg (by omega), HPI.out], HA.out, by rw [List.map_append, HXS.out, HEV.out]; rw [if_neg (by omega), if_neg (by omega)]; rfl, HB4.out⟩
    case measure => simp [intOf] <;> omega
   by_cases h36 : k0 = 36
   ·subst h36
    obtain ⟨hpl, -⟩ := plcs_last (kind := 36) (ns := ns) (k := k) (n := ns.length) (by rw [HND.out]) hkl
    have hpsl : ps < sl := by have h1 := HPS.out; have h2 := HFS.out.1; have h3 := HSL.out; omega
    have hpsi : (ps : Int) < sl := by omega
    obtain ⟨sa', sl', sc', bs, os, rfl, hbs, f_s, hzs⟩ := val_at (HSA.out.below (HW1.out.mono hBw)) hpsl
    have HZS := hid hzs
    have hz4 : (ss.getD ps []).length ≤ 4 := by
     have h1 := HFS.out.2 ps (by have := HSL.out; omega)
     have := cellsN_bound (ns.getD ((plcs 36 ns ns.length).getD ps 0).toNat default).si (ns.getD ((plcs 36 ns ns.length).getD ps 0).toNat default).sw
     have := h1.1
     omega
    obtain ⟨zs, hzz⟩ : ∃ zs, ss.getD ps [] = zs := ⟨_, rfl⟩
    rw [hzz] at HZS hz4
    have HZZ := hid hzz
    clear hzs hzz hpl
    go_wp2_with fail
    refine (c_l4Copy (B := B) w1 (Nat.le_trans hBw HW1.out.size) HZS.out (by omega)).mono ?_
    rintro e w2 ⟨x, rfl, hox, hq⟩
    obtain ⟨xa, xc, rfl, -⟩ := own_form hox
    have HNV2 := hid (show w2.heap[wo.heap.size + 1]? = some (.cells #[.slice none 0 0] 69 (0, 0)) from (hq.block _ hss1).trans HNV.out.b1)
    have HOX := hid hox
    have HB2 := hid (HB1.out.trans (hq.mono HB1.out.size))
    have t0 := cell_of_block (i := 0) HNV2.out (v := .slice none 0 0) rfl
    have t1 := free_of_block (i := 0) HNV2.out
    have hs12 := hq.size
    clear hox hq n0 n4 r0 r1 g1 f_s
    go_upto_region 19 with fail
    refine code_gen (R := fun wb => wb.heap[wo.heap.size + 1]? = some (.cells #[.slice xa zs.length xc] 69 (0, 0)) ∧ wb.ownsInts w1.heap.size 3 .i64 (.slice xa zs.length xc) zs ∧ Below wo.heap.size wo wb) ⟨heap_setCell_same _ _ 0 _ _ _ HNV2.out, own_block HOX.out (fun y hy _ _ => heap_setCell_other _ _ _ _ (by show y ≠ wo.heap.size + 1; omega)), Below.setCell (p := ⟨wo.heap.size + 1, 0, none⟩) HB2.out (Nat.le_succ _) _⟩ ?_
    rintro w3 ⟨k3, ho3, hb3⟩
    have HB3 := hid hb3
    have HO3 := hid (show w3.ownsInts (w.heap.size + 1) 3 .i64 (.slice xa zs.length xc) zs from World.ownsInts.mono' ho3 (by omega))
    have HFR := hid (show ∀ y, Value.ownBlock (.slice xa zs.length xc) = some y → ¬ ValBlk _ xs y from fun y hy => HV.out.fresh (by have := (ho3.1.lt y hy).1; omega))
    have HV3 := hid (HV.out.below hb3)
    have HC1 := hid (own_oneCell HO3.out)
    have hw3 : w.heap.size + 1 ≤ w3.heap.size := by have := hb3.size; omega
    have v3 := cell_of_block (i := 0) k3 (v := .slice xa zs.length xc) rfl
    clear k3 ho3 hb3 t0 t1
    go_wp2_with (first | (at_builtin; refine wpList_append_own_at _ rfl _ _ 30 rfl (w.heap.size + 1) 69 i2 _ 1 24 Tryz.underlying30 HI2.out HZ02.out HZ12.out HZ22.out rfl (by decide) _ _ _ rfl (HV3.out.row.alloc _) ⟨w3.heap.size, 0, none⟩ 1 1 [.slice xa zs.length xc] rfl rfl (cell_one_new _ _ _) HC1.out (by unfold maxLen; have := HXL.out; omega) (by have := HXL.out; omega) (by simp; omega) ?_; intro v' w4 hown' hgrow' hnil hloc) | go_in)
    have HA := hid (HV3.out.push HO3.out HFR.out hown' hgrow' hloc)
    have HB4 := hid (((HBr.out.trans (HB3.out.mono hlw)).alloc hw3 _).grown hgrow' (by simp; omega) (fun y hy => (HV3.out.row.lt y hy).1))
    clear hown' hgrow' hnil hloc v3
    go_roundw
    case rel => exact ⟨k + 1, _, by omega, by go_num, by rw [HP36.out]; (first | rw [if_pos rfl] | rw [if_pos trivial]); rw [List.length_append, HPS.out, List.length_singleton]; go_num, by rw [HP35.out]; rw [if_neg (by omega), HPI.out], HA.out, by rw [List.map_append, HXS.out, HEV.out]; (first | rw [if_pos rfl] | rw [if_pos trivial]); rw [HZZ.out]; rfl, HB4.out⟩
    case measure => simp [intOf] <;> omega
   by_cases h35 : k0 = 35
   ·subst h35
    obtain ⟨hpl, -⟩ := plcs_last (kind := 35) (ns := ns) (k := k) (n := ns.length) (by rw [HND.out]) hkl
    have hpil : pi < il := by have h1 := HPI.out; have h2 := HFI.out.1; have h3 := HIL.out; omega
    have hpii : (pi : Int) < il := by omega
    obtain ⟨sa', sl', sc', bs, os, rfl, hbs, f_s, hzs⟩ := val_at (HIA.out.below (HW1.out.mono hBw)) hpil
    have HZS := hid hzs
    have hz4 : (is.getD pi []).length ≤ 4 := by
     have h1 := HFI.out.2 pi (by have := HIL.out; omega)
     have := cellsN_bound (ns.getD ((plcs 35 ns ns.length).getD pi 0).toNat default).si (ns.getD ((plcs 35 ns ns.length).getD pi 0).toNat default).sw
     have := h1.1
     omega
    obtain ⟨zs, hzz⟩ : ∃ zs, is.getD pi [] = zs := ⟨_, rfl⟩
    rw [hzz] at HZS hz4
    have HZZ := hid hzz
    clear hzs hzz hpl
    go_wp2_with fail
    refine (c_l4Copy (B := B) w1 (Nat.le_trans hBw HW1.out.size) HZS.out (by omega)).mono ?_
    rintro e w2 ⟨x, rfl, hox, hq⟩
    obtain ⟨xa, xc, rfl, -⟩ := own_form hox
    have HNV2 := hid (show w2.heap[wo.heap.size + 1]? = some (.cells #[.slice none 0 0] 69 (0, 0)) from (hq.block _ hss1).trans HNV.out.b1)
    have HOX := hid hox
    have HB2 := hid (HB1.out.trans (hq.mono HB1.out.size))
    have t0 := cell_of_block (i := 0) HNV2.out (v := .slice none 0 0) rfl
    have t1 := free_of_block (i := 0) HNV2.out
    have hs12 := hq.size
    clear hox hq n0 n4 r0 r1 g1 f_s
    go_upto_region 19 with fail
    refine code_gen (R := fun wb => wb.heap[wo.heap.size + 1]? = some (.cells #[.slice xa zs.length xc] 69 (0, 0)) ∧ wb.ownsInts w1.heap.size 3 .i64 (.slice xa zs.length xc) zs ∧ Below wo.heap.size wo wb) ⟨heap_setCell_same _ _ 0 _ _ _ HNV2.out, own_block HOX.out (fun y hy _ _ => heap_setCell_other _ _ _ _ (by show y ≠ wo.heap.size + 1; omega)), Below.setCell (p := ⟨wo.heap.size + 1, 0, none⟩) HB2.out (Nat.le_succ _) _⟩ ?_
    rintro w3 ⟨k3, ho3, hb3⟩
    have HB3 := hid hb3
    have HO3 := hid (show w3.ownsInts (w.heap.size + 1) 3 .i64 (.slice xa zs.length xc) zs from World.ownsInts.mono' ho3 (by omega))
    have HFR := hid (show ∀ y, Value.ownBlock (.slice xa zs.length xc) = some y → ¬ ValBlk _ xs y from fun y hy => HV.out.fresh (by have := (ho3.1.lt y hy).1; omega))
    have HV3 := hid (HV.out.below hb3)
    have HC1 := hid (own_oneCell HO3.out)
    have hw3 : w.heap.size + 1 ≤ w3.heap.size := by have := hb3.size; omega
    have v3 := cell_of_block (i := 0) k3 (v := .slice xa zs.length xc) rfl
    clear k3 ho3 hb3 t0 t1
    go_wp2_with (first | (at_builtin; refine wpList_append_own_at _ rfl _ _ 30 rfl (w.heap.size + 1) 69 i2 _ 1 24 Tryz.underlying30 HI2.out HZ02.out HZ12.out HZ22.out rfl (by decide) _ _ _ rfl (HV3.out.row.alloc _) ⟨w3.heap.size, 0, none⟩ 1 1 [.slice xa zs.length xc] rfl rfl (cell_one_new _ _ _) HC1.out (by unfold maxLen; have := HXL.out; omega) (by have := HXL.out; omega) (by simp; omega) ?_; intro v' w4 hown' hgrow' hnil hloc) | go_in)
    have HA := hid (HV3.out.push HO3.out HFR.out hown' hgrow' hloc)
    have HB4 := hid (((HBr.out.trans (HB3.out.mono hlw)).alloc hw3 _).grown hgrow' (by simp; omega) (fun y hy => (HV3.out.row.lt y hy).1))
    clear hown' hgrow' hnil hloc v3
    go_roundw
    case rel => exact ⟨k + 1, _, by omega, by go_num, by rw [HP36.out]; rw [if_neg (by omega), HPS.out], by rw [HP35.out]; (first | rw [if_pos rfl] | rw [if_pos trivial]); rw [List.length_append, HPI.out, List.length_singleton]; go_num, HA.out, by rw [List.map_append, HXS.out, HEV.out]; (try rw [if_neg (by omega)]); (first | rw [if_pos rfl] | rw [if_pos trivial]); rw [HZZ.out]; rfl, HB4.out⟩
    case measure => simp [intOf] <;> omega
   have HINN := hid (node_in HGK.out hk HFK.out)
   have HVF := hid (node_fits HGK.out hk HFK.out h36 h35)
   have h1p : 1 ≤ pcN k0 := by
    have h0 := HINN.out.pc
    have hkc := kind_cases h0
    simp only at h0 hkc
    unfold pcN at h0 ⊢
    rw [if_neg (by omega)] at h0 ⊢
    (repeat' split at h0) <;> (repeat' split) <;> omega
   have n1 := cell_of_block (i := 1) HNV.out.b0 (v := .int .i64 pa) rfl
   have n2 := cell_of_block (i := 2) HNV.out.b0 (v := .int .i64 pb) rfl
   have n3 := cell_of_block (i := 3) HNV.out.b0 (v := .int .i64 pc) rfl
   have n5 := cell_of_block (i := 5) HNV.out.b0 (v := .int .i64 m) rfl
   have n6 := cell_of_block (i := 6) HNV.out.b0 (v := .int .i64 si) rfl
   have n7 := cell_of_block (i := 7) HNV.out.b0 (v := .int .i64 sw) rfl
   have n8 := cell_of_block (i := 8) HNV.out.b0 (v := .string nm) rfl
   have HVA := hid (show ValsAt w1.heap.size w1 oa k oc (evs ns ss is k) from by have := (HV.out.below HB1.out).vals HXL.out.symm; rw [HXS.out] at this; exact this)
   go_wp2_with fail
   refine (c_l4Node (B := w1.heap.size) ⟨k0, pa, pb, pc, n, m, si, sw, nm⟩ w1 (Nat.le_refl _) (HNS.out ▸ ((HMA.out.ns.rows.below (HW1.out.mono hBw)).mono (Nat.le_trans hBw HW1.out.size)).nodes) HVA.out hk HINN.out h1p (fit_len HFK.out) (valOk_fits HVF.out)).mono ?_
   obtain ⟨zs, hzz⟩ : ∃ zs, nodeVal ns ⟨k0, pa, pb, pc, n, m, si, sw, nm⟩ (evs ns ss is k) = zs := ⟨_, rfl⟩
   rw [hzz]
   have HZZ := hid hzz
   clear hzz
   rintro e w2 ⟨x, rfl, hox, hq⟩
   obtain ⟨xa, xc, rfl, -⟩ := own_form hox
   have HNV2 := hid (show w2.heap[wo.heap.size + 1]? = some (.cells #[.slice none 0 0] 69 (0, 0)) from (hq.block _ hss1).trans HNV.out.b1)
   have HOX := hid hox
   have HB2 := hid (HB1.out.trans (hq.mono HB1.out.size))
   have t0 := cell_of_block (i := 0) HNV2.out (v := .slice none 0 0) rfl
   have t1 := free_of_block (i := 0) HNV2.out
   have hs12 := hq.size
   clear hox hq n0 n4 r0 r1 g1 n1 n2 n3 n5 n6 n7 n8
   go_upto_region 19 with fail
   refine code_gen (R := fun wb => wb.heap[wo.heap.size + 1]? = some (.cells #[.slice xa zs.length xc] 69 (0, 0)) ∧ wb.ownsInts w1.heap.size 3 .i64 (.slice xa zs.length xc) zs ∧ Below wo.heap.size wo wb) ⟨heap_setCell_same _ _ 0 _ _ _ HNV2.out, own_block HOX.out (fun y hy _ _ => heap_setCell_other _ _ _ _ (by show y ≠ wo.heap.size + 1; omega)), Below.setCell (p := ⟨wo.heap.size + 1, 0, none⟩) HB2.out (Nat.le_succ _) _⟩ ?_
   rintro w3 ⟨k3, ho3, hb3⟩
   have HB3 := hid hb3
   have HO3 := hid (show w3.ownsInts (w.heap.size + 1) 3 .i64 (.slice xa zs.length xc) zs from World.ownsInts.mono' ho3 (by omega))
   have HFR := hid (show ∀ y, Value.ownBlock (.slice xa zs.length xc) = some y → ¬ ValBlk _ xs y from fun y hy => HV.out.fresh (by have := (ho3.1.lt y hy).1; omega))
   have HV3 := hid (HV.out.below hb3)
   have HC1 := hid (own_oneCell HO3.out)
   have hw3 : w.heap.size + 1 ≤ w3.heap.size := by have := hb3.size; omega
   have v3 := cell_of_block (i := 0) k3 (v := .slice xa zs.length xc) rfl
   clear k3 ho3 hb3 t0 t1
   go_wp2_with (first | (at_builtin; refine wpList_append_own_at _ rfl _ _ 30 rfl (w.heap.size + 1) 69 i2 _ 1 24 Tryz.underlying30 HI2.out HZ02.out HZ12.out HZ22.out rfl (by decide) _ _ _ rfl (HV3.out.row.alloc _) ⟨w3.heap.size, 0, none⟩ 1 1 [.slice xa zs.length xc] rfl rfl (cell_one_new _ _ _) HC1.out (by unfold maxLen; have := HXL.out; omega) (by have := HXL.out; omega) (by simp; omega) ?_; intro v' w4 hown' hgrow' hnil hloc) | go_in)
   have HA := hid (HV3.out.push HO3.out HFR.out hown' hgrow' hloc)
   have HB4 := hid (((HBr.out.trans (HB3.out.mono hlw)).alloc hw3 _).grown hgrow' (by simp; omega) (fun y hy => (HV3.out.row.lt y hy).1))
   clear hown' hgrow' hnil hloc v3
   go_roundw
   case rel => exact ⟨k + 1, _, by omega, by go_num, by rw [HP36.out]; rw [if_neg (by omega), HPS.out], by rw [HP35.out]; rw [if_neg (by omega), HPI.out], HA.out, by rw [List.map_append, HXS.out, HEV.out]; rw [if_neg h36, if_neg h35, HZZ.out]; rfl, HB4.out⟩
   case measure => simp [intOf] <;> omega
  ·have hki : ¬ (k : Int) < ns.length := by omega
   obtain rfl : k = ns.length := by omega
   have HE := hid (HX0.out.2.2.2.2.2.2.trans (HBr.out.mono (Nat.le_succ _)))
   go_wp2_with fail
   go_ret
   exact ⟨_, _, rfl, HV.out.mono (Nat.le_succ _), HXS.out, HE.out⟩
end Go.Proofs.YtlcgimadbpagfaaGreat
namespace Go.Proofs.YtlcgimadbpagfaaGreat
open Go.Lib
open Go.ChangeShapes Go.WideShapes Go.ChangeAt Go.RowKit Go.Maps
set_option linter.unusedVariables false
set_option maxRecDepth 100000
theorem ValRow.put {base : Nat} {w : World} {g n cap i : Nat} {xs : List (Value × List Int)} {x : Value} {zs : List Int} (h : ValRow base w (.slice (some ⟨g, 0, none⟩) n cap) xs) (hn : n = xs.length) (hi : i < xs.length) (hx : w.ownsInts base 3 .i64 x zs) (hf : ∀ y, x.ownBlock = some y → ¬ ValBlk (.slice (some ⟨g, 0, none⟩) n cap) xs y) :
  ValRow base (w.setCell ⟨g, i, none⟩ x) (.slice (some ⟨g, 0, none⟩) n cap) (xs.set i (x, zs)) := by
 subst hn
 have hb : ∀ y, y ≠ g → (w.setCell ⟨g, i, none⟩ x).heap[y]? = w.heap[y]? := fun y hy => heap_setCell_other _ _ _ _ hy
 have hxg : x.ownBlock ≠ some g := fun e => hf g e (.inl rfl)
 have hcase : ∀ p ∈ xs.set i (x, zs), p = (x, zs) ∨ p ∈ xs := fun p hp => (List.mem_or_eq_of_mem_set hp).elim .inr .inl
 have hpg : ∀ p ∈ xs, p.1.ownBlock ≠ some g := fun p hp e => by
  rcases h.ne p hp with h1 | h1
  ·rw [h1] at e; cases e
  ·exact h1 e
 refine ⟨?_, fun p hp => ?_, fun p hp => ?_, ?_⟩
 ·have := (h.row.stored i x).1
  rw [List.length_set, List.map_set]
  exact this
 ·rcases hcase p hp with rfl | hp
  ·exact own_block hx (fun y _ _ h3 => hb y (fun e => hxg (by rw [h3, e])))
  ·exact own_block (h.own p hp) (fun y _ _ h3 => hb y (fun e => hpg p hp (by rw [h3, e])))
 ·rcases hcase p hp with rfl | hp
  ·exact .inr hxg
  ·exact .inr (hpg p hp)
 ·rw [List.pairwise_iff_getElem]
  intro a b ha hb' hab
  rw [List.length_set] at ha hb'
  rw [List.getElem_set, List.getElem_set]
  have hd := List.pairwise_iff_getElem.1 h.dis a b ha hb' hab
  have fr : ∀ (c : Nat) (hc : c < xs.length), x.ownBlock = none ∨ x.ownBlock ≠ xs[c].1.ownBlock := fun c hc => by
   cases hxb : x.ownBlock with
   | none => exact .inl rfl
   | some y => exact .inr (fun e => hf y hxb (.inr ⟨_, List.getElem_mem hc, e.symm⟩))
  split
  ·split
   ·omega
   ·exact fr b hb'
  ·split
   ·rcases fr a ha with h1 | h1
    ·rw [h1]
     cases hxa : xs[a].1.ownBlock with
     | none => exact .inl rfl
     | some y => exact .inr (by simp)
    ·exact .inr (fun e => h1 e.symm)
   ·exact hd
def lay (P : List Int) (vs : List (List Int)) (zss : List (List Int)) : Nat → List (List Int)
 | 0 => zss
 | k + 1 => (lay P vs zss k).set (P.getD k 0).toNat (vs.getD k [])
theorem lay_len (P : List Int) (vs zss : List (List Int)) (k : Nat) : (lay P vs zss k).length = zss.length := by
 induction k with
 | zero => rfl
 | succ k ih => simp [lay, ih]
def LayP (base : Nat) (v : Value) (P : List Int) (vs zss : List (List Int)) (w : World) (e : Ending) (w' : World) : Prop := ∃ u xs, e = .returned u ∧ ValRow base w' v xs ∧ xs.map Prod.snd = lay P vs zss P.length ∧ Below base w w'
def LayR (base : Nat) (v : Value) (P : List Int) (vs zss : List (List Int)) (w w1 : World) (i : Value) (wr : World) : Prop := ∃ (t : Nat) (xs : List (Value × List Int)), t ≤ P.length ∧ i = .int .i64 t ∧ ValRow base wr v xs ∧ (∀ y, ValBlk v xs y → y < w.heap.size ∨ w1.heap.size ≤ y) ∧ xs.map Prod.snd = lay P vs zss t ∧ (∀ y, w.heap.size ≤ y → y < w1.heap.size → wr.heap[y]? = w1.heap[y]?) ∧ w1.heap.size ≤ wr.heap.size ∧ Below base w1 wr
set_option maxHeartbeats 8000000 in
theorem c_layDown {B base : Nat} {g n cap : Nat} {xs0 : List (Value × List Int)} {a0 : Option Addr} {l0 p0 : Nat} {ns : List ND} {va : Option Addr} {vl vc : Nat} {vs : List (List Int)} (kind : Int) (w : World) (hBb : B ≤ base) (hbw : base ≤ w.heap.size) (h : NodesAt B w a0 l0 p0 ns) (h60 : l0 ≤ 60) (hv : ValsAt B w va vl vc vs) (hvl : vl = (plcs kind ns ns.length).length) (hs : ∀ i, i < vl → (vs.getD i []).length ≤ 4)
  (hr : ValRow base w (.slice (some ⟨g, 0, none⟩) n cap) xs0) (hn : n = xs0.length) (hnl : n = l0) :
  Calls Tryz.prog 65 #[.slice (some ⟨g, 0, none⟩) n cap, .slice a0 l0 p0, .int .i64 kind, .slice va vl vc] w (LayP base (.slice (some ⟨g, 0, none⟩) n cap) (plcs kind ns ns.length) vs (xs0.map Prod.snd) w) := by
 have HN := hid h
 have HV := hid hv
 have HR := hid hr
 have HS := hid hs
 have hnsl : ns.length = l0 := h.1
 obtain ⟨P, hP⟩ : ∃ P, plcs kind ns ns.length = P := ⟨_, rfl⟩
 have HPP := hid hP
 rw [hP] at hvl ⊢
 have hp60 : P.length ≤ 60 := by have := plcs_len kind ns ns.length; rw [hP] at this; omega
 have HPL := hid (show ∀ k, k < P.length → 0 ≤ P.getD k 0 ∧ P.getD k 0 < l0 from fun k hk => by subst hP; have := plcs_at hk; omega)
 have HXN := hid hn
 have hBw : B ≤ w.heap.size := Nat.le_trans hBb hbw
 have hgw : g < w.heap.size := (hr.row.lt g rfl).2
 have hgb : base ≤ g := (hr.row.lt g rfl).1
 obtain ⟨zss, hzss⟩ : ∃ z, xs0.map Prod.snd = z := ⟨_, rfl⟩
 rw [hzss]
 have HZ0 := hid hzss
 clear h hv hr hs hP hnsl hn hzss
 subst hvl
 subst hnl
 go_enter Tryz.func65, Tryz.ntmps65
 go_wp2_with fail
 refine (c_kindPlaces (B := B) kind w hBw HN.out h60).mono ?_
 rintro e w1 ⟨pv, rfl, ho, hq⟩
 rw [HPP.out] at ho
 obtain ⟨pa, pcap, rfl, hform⟩ := own_form ho
 have HP := hid (own_ints ho rfl)
 have HGB := hid (show ∀ b o, pa = some ⟨b, o, none⟩ → w.heap.size ≤ b from fun b o e => by
  rcases hform with ⟨h1, -, -⟩ | ⟨y, h1, h2, -⟩
  ·rw [h1] at e; cases e
  ·rw [h1] at e; injection e with e; injection e with e; omega)
 have HQ := hid hq
 have HN1 := hid (HN.out.rows.below (hq.mono hBw)).nodes
 have HV1 := hid (HV.out.below (hq.mono hBw))
 have H0 := hid (show LayR base (.slice (some ⟨g, 0, none⟩) n cap) P vs zss w w1 (.int .i64 0) w1 from ⟨0, xs0, by omega, rfl, HR.out.below hq, fun y hy => .inl (HR.out.blk hy).2, HZ0.out, fun _ _ _ => rfl, Nat.le_refl _, Below.refl _ _⟩)
 have hs1 := hq.size
 clear ho hform hq
 go_wp2_with fail
 go_loopw [14] (fun i wr => LayR base (.slice (some ⟨g, 0, none⟩) n cap) P vs zss w w1 i wr) (fun i _ => P.length - (intOf i).toNat)
 case atStart => exact H0.out
 case round =>
  obtain ⟨t, xs, ht, rfl, hr, hblk, hxs, hpl, hsz, hB⟩ := hrel
  have HRr := hid hr
  have HBL := hid hblk
  have HXS := hid hxs
  have HPB := hid hpl
  have HBr := hid hB
  clear hr hblk hxs hpl hB H0
  by_cases htl : t < P.length
  ·have hti : (t : Int) < P.length := by omega
   obtain ⟨p, b1, o1, hp, -, rfl, hbB1, e0⟩ := int_at HP.out htl
   have e2 := (World.cell?_of_block (w := w1) (w' := wr) (a := ⟨b1, o1 + t, none⟩) (HPB.out b1 (HGB.out _ _ rfl) hbB1)).trans e0
   have hpr := HPL.out t htl
   rw [hp] at hpr
   obtain ⟨q, rfl⟩ : ∃ q : Nat, p = q := ⟨p.toNat, by omega⟩
   have hql : (q : Int) < n := hpr.2
   have hqn : q < n := by omega
   obtain ⟨a', l', c', b2, o2, rfl, hbB2, f0, hz⟩ := val_at HV1.out htl
   have f1 := (HBr.out.cell (p := ⟨b2, o2 + t, none⟩) (by show b2 < base; omega)).trans f0
   have HZ := hid (hz.below (HBr.out.mono hBb))
   have hz4 : l' ≤ 4 := by have h1 := HS.out t htl; have h2 := hz.1; omega
   have HPT := hid (show (P.getD t 0).toNat = q by rw [hp]; rfl)
   obtain ⟨zs, hzs⟩ : ∃ zs, vs.getD t [] = zs := ⟨_, rfl⟩
   rw [hzs] at HZ
   have HZZ := hid hzs
   have hxl : xs.length = n := by have h1 := congrArg List.length HXS.out; rw [lay_len, ← HZ0.out] at h1; have h2 := HXN.out; simp at h1; omega
   have HXL := hid hxl
   clear hz hp hpr hzs hxl e0 f0
   go_wp2_with fail
   refine (c_Clone (B := B) wr (by omega) HZ.out (by omega)).mono ?_
   rintro e w2 ⟨x, rfl, hox, hq⟩
   obtain ⟨xa, xc, rfl, -⟩ := own_form hox
   have HR2 := hid (HRr.out.below hq)
   have HOX := hid hox
   have hs2 := hq.size
   have HQ2 := hid hq
   have hgc : w2.heap[g]? = wr.heap[g]? := hq.block g (by omega)
   have hrow : w2.ownsRow base 69 1 (.slice (some ⟨g, 0, none⟩) n cap) n (xs.map Prod.fst) := by have := HR2.out.row; rw [HXL.out] at this; exact this
   have d0 := hrow.cellAt q (by omega)
   have d1 := hrow.frozenAt q
   obtain ⟨v0, hv0⟩ : ∃ v0, (xs.map Prod.fst)[q]? = some v0 := ⟨_, List.getElem?_eq_getElem (by have := HXL.out; simp; omega)⟩
   rw [hv0] at d0
   have HNX := hid (show LayR base (.slice (some ⟨g, 0, none⟩) n cap) P vs zss w w1 (.int .i64 ((t : Int) + 1)) (w2.setCell ⟨g, q, none⟩ (.slice xa zs.length xc)) from by
    have hfr : ∀ y, Value.ownBlock (.slice xa zs.length xc) = some y → ¬ ValBlk (.slice (some ⟨g, 0, none⟩) n cap) xs y := fun y hy hb => by
     have h1 := (HRr.out.blk hb).2
     have h2 := (HOX.out.1.lt y hy).1
     omega
    have hput := HR2.out.put (i := q) HXL.out.symm (by have := HXL.out; omega) (World.ownsInts.mono' HOX.out (by omega)) hfr
    refine ⟨t + 1, _, htl, by go_num, hput, ?_, ?_, ?_, ?_, ?_⟩
    ·rintro y (hy | ⟨p, hp, hy⟩)
     ·exact HBL.out y (.inl hy)
     ·rcases List.mem_or_eq_of_mem_set hp with hp | rfl
      ·exact HBL.out y (.inr ⟨p, hp, hy⟩)
      ·exact .inr (by have := (HOX.out.1.lt y hy).1; omega)
    ·rw [List.map_set, HXS.out]; simp only [lay]; rw [HPT.out, HZZ.out]
    ·intro y h1 h2
     exact (heap_setCell_other _ _ _ _ (by show y ≠ g; omega)).trans ((HQ2.out.block y (by omega)).trans (HPB.out y h1 h2))
    ·simp; omega
    ·exact (HBr.out.trans (HQ2.out.mono (by omega))).setCell (p := ⟨g, q, none⟩) hgb _)
   clear hox hq hgc hv0 e2 f1 hrow
   go_wp2_with fail
   go_roundw
   case rel => exact HNX.out
   case measure => simp [intOf] <;> omega
  ·have hti : ¬ (t : Int) < P.length := by omega
   obtain rfl : t = P.length := by omega
   have HE := hid ((HQ.out.mono hbw).trans HBr.out)
   go_wp2_with fail
   go_end0
   exact ⟨_, xs, rfl, HRr.out, HXS.out, HE.out⟩
end Go.Proofs.YtlcgimadbpagfaaGreat
