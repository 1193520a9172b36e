/-
  The law FnPick: a choice of sets is chosen number by number.
-/
import Derived.Test.YthdofdglbdfkkaaDoorRows
import Derived.Test.YthdofdglbdfkkaaDoorPaA
import Derived.Test.YthdofdglbdfkkaaDoorG0
import Derived.Test.YthdofdglbdfkkaaDoorRd
import Derived.Test.YthdofdglbdfkkaaDoorBdF
import Derived.Test.YthdofdglbdfkkaaDoorFpB
import Derived.Test.YthdofdglbdfkkaaDoorFpL
import Derived.Test.YthdofdglbdfkkaaDoorFpE
import Derived.Test.YthdofdglbdfkkaaDoorFpD
import Derived.Test.YthdofdglbdfkkaaDoorFpG
import Derived.Test.YthdofdglbdfkkaaDoorFpJ
import Derived.Test.YthdofdglbdfkkaaDoorFoE
import Derived.Test.YthdofdglbdfkkaaDoorFoO
import Derived.Test.YthdofdglbdfkkaaDoorLawD0
import Derived.WalkKit
import Derived.ProofKit
import Derived.OpenShut
import Derived.WalkSpells
import Derived.WalkLawsBesides
import Derived.Outline
import Derived.BigQuiet
import Derived.Handy
import Derived.LoopTactic
import Derived.Deep.Light
import Derived.Deep.RegionWith
import Derived.Deep.RegionHeld3
import Derived.Deep.DeepCutAuto
import Derived.Lib.Hide
import Derived.Maps.OwnRows
import Derived.Deep.Onto
import Derived.OneCell
import Derived.StillTailTactics
import Derived.Deep.AppendLies
import Derived.Deep.RegionLaw
namespace Go.Proofs.YthdofdglbdfkkaaDoor
open Go.ChangeShapes Go.WideShapes Go.ChangeAt Go.RowKit Go.Maps Go.ChangeMaps
set_option linter.unusedVariables false
set_option maxRecDepth 100000

theorem evl_bool {V R n : Int} {m : List BN} {e : Ending} (ho : OkB V m R) (hn : 0 ≤ n ∧ n < 2 ^ V.toNat) (hb : BoolIs (EvlP V R n m) e) : e = .returned (.bool (evF m R n)) := by
  obtain ⟨r, rfl, hr⟩ := hb
  have h : r = true ↔ evF m R n = true := hr.trans ⟨fun h => evF_has.2 h.2.2, fun h => ⟨ho, hn, evF_has.1 h⟩⟩
  rw [Bool.eq_iff_iff.2 h]
theorem pow_i64 {V : Int} (h0 : 0 ≤ V) (h : V ≤ 13) : IntKind.i64.wrap (2 ^ V.toNat) = 2 ^ V.toNat := by
  have h1 := p2_13 h0 h
  have h2 := p2_pos V.toNat
  generalize (2 : Int) ^ V.toNat = m at *
  exact IntWalk.i64_in _ (by omega)
theorem no_false {V : Int} (hv : 0 ≤ V ∧ V ≤ 13) : OkB V [] 1 ∧ OkB V [] 0 := ⟨(ansR_yes hv.1).is hv |>.2.1, ansR_no.is hv |>.2.1⟩

set_option maxHeartbeats 32000000 in
theorem w_FnPick {a1 : Option Addr} {len1 cap1 : Nat} {a2 : Option Addr} {len2 cap2 : Nat} (W : World) (hgl : Glob W) (h1 : BytesAt W.heap.size W a1 len1 cap1) (h2 : BytesAt W.heap.size W a2 len2 cap2) :
    Calls Tryd.prog 3 #[.slice a1 len1 cap1, .slice a2 len2 cap2] W fun e w' => e = .returned (.bool true) ∧ Below W.heap.size W w' := by
  have GL := Go.Lib.hid hgl
  have HC := Go.Lib.hid h1
  have HM := Go.Lib.hid h2
  have hm1 : (len1 : Int) ≤ 9223372036854775807 := by have h3 := h1.1; have h4 := h1.2.1; unfold maxLen at h4; omega
  have hm2 : (len2 : Int) ≤ 9223372036854775807 := by have h3 := h2.1; have h4 := h2.2.1; unfold maxLen at h4; omega
  clear hgl h1 h2
  go_enter Tryd.func3, Tryd.ntmps3
  by_cases hl1 : 1048576 < len1
  · have hi1 : (1048576 : Int) < len1 := by omega
    go_wp2_with fail
    go_ret
    exact ⟨rfl, Below.refl _ _⟩
  have hi1 : ¬ (1048576 : Int) < len1 := by omega
  by_cases hl2 : 1048576 < len2
  · have hi2 : (1048576 : Int) < len2 := by omega
    go_wp2_with fail
    go_ret
    exact ⟨rfl, Below.refl _ _⟩
  have hi2 : ¬ (1048576 : Int) < len2 := by omega
  go_wp2_with fail
  refine (c_DrawBddIf (B := W.heap.size) W HC.out (Nat.le_refl _)).mono ?_
  rintro e w1 ⟨Vc, ac, lc, cc, Rc, Va, aa, la, ca, Ra, Vb, ab, lb, cb, Rb, rfl, ⟨mc, hc⟩, ⟨ma, ha⟩, ⟨mb, hb⟩, hq⟩
  replace GL := Go.Lib.hid (GL.out.below hq)
  have HB := Go.Lib.hid hq
  have Nc := Go.Lib.hid hc
  have Na := Go.Lib.hid ha
  have Nb := Go.Lib.hid hb
  clear hc ha hb hq
  go_upto_region 4 with fail
  refine code_gen (R := fun wb => KsAt w1.heap.size #[.int .i64 Vc, .slice ac lc cc, .int .i64 Rc] #[.int .i64 Va, .slice aa la ca, .int .i64 Ra] #[.int .i64 Vb, .slice ab lb cb, .int .i64 Rb] wb ∧ Below w1.heap.size w1 wb) ⟨⟨by first | exact (al3 _ _ _ _).1 | exact three_1 _ _ _ _, by first | exact (al3 _ _ _ _).2.1 | exact three_2 _ _ _ _, by first | exact (al3 _ _ _ _).2.2 | exact three_3 _ _ _ _⟩, by go_grown⟩ ?_
  rintro w2 ⟨hk, hq⟩
  replace GL := Go.Lib.hid (GL.out.below hq)
  replace Nc := Go.Lib.hid ((Nc.out.below hq).mono hq.size)
  replace Na := Go.Lib.hid ((Na.out.below hq).mono hq.size)
  replace Nb := Go.Lib.hid ((Nb.out.below hq).mono hq.size)
  replace HB := Go.Lib.hid (HB.out.trans (hq.mono HB.out.size))
  have lgc : w1.heap.size < w2.heap.size := blk_lt hk.k1
  have lga : w1.heap.size + 1 < w2.heap.size := blk_lt hk.k2
  have lgb : w1.heap.size + 2 < w2.heap.size := blk_lt hk.k3
  have Hgc := Go.Lib.hid hk.k1
  have Hga := Go.Lib.hid hk.k2
  have Hgb := Go.Lib.hid hk.k3
  clear hk hq
  obtain ⟨gc, hgc⟩ : ∃ g, w1.heap.size = g := ⟨_, rfl⟩
  rw [hgc] at Hgc lgc
  obtain ⟨ga, hga⟩ : ∃ g, w1.heap.size + 1 = g := ⟨_, rfl⟩
  rw [hga] at Hga lga
  obtain ⟨gb, hgb⟩ : ∃ g, w1.heap.size + 2 = g := ⟨_, rfl⟩
  rw [hgb] at Hgb lgb
  rw [hgb, hga, hgc]
  clear hgc hga hgb
  have cgc_0 := cell_of_block (i := 0) Hgc.out (v := .int .i64 Vc) rfl
  have cgc_1 := cell_of_block (i := 1) Hgc.out (v := .slice ac lc cc) rfl
  have cgc_2 := cell_of_block (i := 2) Hgc.out (v := .int .i64 Rc) rfl
  have cga_0 := cell_of_block (i := 0) Hga.out (v := .int .i64 Va) rfl
  have cga_1 := cell_of_block (i := 1) Hga.out (v := .slice aa la ca) rfl
  have cga_2 := cell_of_block (i := 2) Hga.out (v := .int .i64 Ra) rfl
  have cgb_0 := cell_of_block (i := 0) Hgb.out (v := .int .i64 Vb) rfl
  have cgb_1 := cell_of_block (i := 1) Hgb.out (v := .slice ab lb cb) rfl
  have cgb_2 := cell_of_block (i := 2) Hgb.out (v := .int .i64 Rb) rfl
  go_wp2_with fail
  refine (c_BddIfI Vc Rc Va Ra Vb Rb w2 GL.out (Nat.le_refl _) Nc.out Na.out Nb.out).mono ?_
  rintro e w3 ⟨x, Vx, Rx, b1, mx, rfl, how, hrel, hq⟩
  replace Hgc := Go.Lib.hid ((hq.block _ lgc).trans Hgc.out)
  replace lgc := Nat.lt_of_lt_of_le lgc hq.size
  replace Hga := Go.Lib.hid ((hq.block _ lga).trans Hga.out)
  replace lga := Nat.lt_of_lt_of_le lga hq.size
  replace Hgb := Go.Lib.hid ((hq.block _ lgb).trans Hgb.out)
  replace lgb := Nat.lt_of_lt_of_le lgb hq.size
  replace GL := Go.Lib.hid (GL.out.below hq)
  replace Nc := Go.Lib.hid ((Nc.out.below hq).mono hq.size)
  replace Na := Go.Lib.hid ((Na.out.below hq).mono hq.size)
  replace Nb := Go.Lib.hid ((Nb.out.below hq).mono hq.size)
  replace HB := Go.Lib.hid (HB.out.trans (hq.mono HB.out.size))
  clear cgc_0 cgc_1 cgc_2 cga_0 cga_1 cga_2 cgb_0 cgb_1 cgb_2
  obtain ⟨ax, kx, rfl, -⟩ := OwnN.form how
  have Nx := Go.Lib.hid (OwnN.bns how rfl)
  have CB := Go.Lib.hid hrel
  clear how hrel hq
  go_upto_region 5 with fail
  refine code_gen (R := fun wb => wb.heap[w3.heap.size]? = some (.cells #[.int .i64 Vx, .slice ax mx.length kx, .int .i64 Rx] 25 (0, 0)) ∧ Below w3.heap.size w3 wb) ⟨by first | exact (MapKept.heap_alloc _ _).1 | exact heap_alloc_new _ _, by go_grown⟩ ?_
  rintro w4 ⟨k, hq⟩
  have lgx : w3.heap.size < w4.heap.size := (Array.getElem?_eq_some_iff.1 k).1
  replace Hgc := Go.Lib.hid ((hq.block _ lgc).trans Hgc.out)
  replace lgc := Nat.lt_of_lt_of_le lgc hq.size
  replace Hga := Go.Lib.hid ((hq.block _ lga).trans Hga.out)
  replace lga := Nat.lt_of_lt_of_le lga hq.size
  replace Hgb := Go.Lib.hid ((hq.block _ lgb).trans Hgb.out)
  replace lgb := Nat.lt_of_lt_of_le lgb hq.size
  replace GL := Go.Lib.hid (GL.out.below hq)
  replace Nc := Go.Lib.hid ((Nc.out.below hq).mono hq.size)
  replace Na := Go.Lib.hid ((Na.out.below hq).mono hq.size)
  replace Nb := Go.Lib.hid ((Nb.out.below hq).mono hq.size)
  replace Nx := Go.Lib.hid ((Nx.out.below hq).mono hq.size)
  replace HB := Go.Lib.hid (HB.out.trans (hq.mono HB.out.size))
  obtain ⟨gx, hgx⟩ : ∃ g, w3.heap.size = g := ⟨_, rfl⟩
  rw [hgx] at k lgx ⊢
  have Hgx := Go.Lib.hid k
  clear k hq hgx
  have cgc_0 := cell_of_block (i := 0) Hgc.out (v := .int .i64 Vc) rfl
  have cgc_1 := cell_of_block (i := 1) Hgc.out (v := .slice ac lc cc) rfl
  have cgc_2 := cell_of_block (i := 2) Hgc.out (v := .int .i64 Rc) rfl
  have cga_0 := cell_of_block (i := 0) Hga.out (v := .int .i64 Va) rfl
  have cga_1 := cell_of_block (i := 1) Hga.out (v := .slice aa la ca) rfl
  have cga_2 := cell_of_block (i := 2) Hga.out (v := .int .i64 Ra) rfl
  have cgb_0 := cell_of_block (i := 0) Hgb.out (v := .int .i64 Vb) rfl
  have cgb_1 := cell_of_block (i := 1) Hgb.out (v := .slice ab lb cb) rfl
  have cgb_2 := cell_of_block (i := 2) Hgb.out (v := .int .i64 Rb) rfl
  go_wp2_with fail
  refine (c_BddIfS Vc Rc Va Ra Vb Rb w4 (Nat.le_refl _) Nc.out Na.out Nb.out).mono ?_
  rintro e w5 ⟨y, V', R', b2, m', rfl, how, hrel, hq⟩
  replace Hgc := Go.Lib.hid ((hq.block _ lgc).trans Hgc.out)
  replace lgc := Nat.lt_of_lt_of_le lgc hq.size
  replace Hga := Go.Lib.hid ((hq.block _ lga).trans Hga.out)
  replace lga := Nat.lt_of_lt_of_le lga hq.size
  replace Hgb := Go.Lib.hid ((hq.block _ lgb).trans Hgb.out)
  replace lgb := Nat.lt_of_lt_of_le lgb hq.size
  replace Hgx := Go.Lib.hid ((hq.block _ lgx).trans Hgx.out)
  replace lgx := Nat.lt_of_lt_of_le lgx hq.size
  replace GL := Go.Lib.hid (GL.out.below hq)
  replace Nc := Go.Lib.hid ((Nc.out.below hq).mono hq.size)
  replace Na := Go.Lib.hid ((Na.out.below hq).mono hq.size)
  replace Nb := Go.Lib.hid ((Nb.out.below hq).mono hq.size)
  replace Nx := Go.Lib.hid ((Nx.out.below hq).mono hq.size)
  replace HB := Go.Lib.hid (HB.out.trans (hq.mono HB.out.size))
  clear cgc_0 cgc_1 cgc_2 cga_0 cga_1 cga_2 cgb_0 cgb_1 cgb_2
  obtain ⟨e1, e2, e3, e4⟩ := CB.out.inj (fun h => h.1.2.1.hv.1) hrel
  subst e1
  subst e2
  subst e3
  subst e4
  obtain ⟨aw, kw, rfl, -⟩ := OwnN.form how
  have Nw := Go.Lib.hid (OwnN.bns how rfl)
  clear how hrel hq
  go_upto_region 6 with fail
  refine code_gen (R := fun wb => wb.heap[w5.heap.size]? = some (.cells #[.int .i64 Vx, .slice aw mx.length kw, .int .i64 Rx] 25 (0, 0)) ∧ Below w5.heap.size w5 wb) ⟨by first | exact (MapKept.heap_alloc _ _).1 | exact heap_alloc_new _ _, by go_grown⟩ ?_
  rintro w6 ⟨k, hq⟩
  have lgw : w5.heap.size < w6.heap.size := (Array.getElem?_eq_some_iff.1 k).1
  replace Hgc := Go.Lib.hid ((hq.block _ lgc).trans Hgc.out)
  replace lgc := Nat.lt_of_lt_of_le lgc hq.size
  replace Hga := Go.Lib.hid ((hq.block _ lga).trans Hga.out)
  replace lga := Nat.lt_of_lt_of_le lga hq.size
  replace Hgb := Go.Lib.hid ((hq.block _ lgb).trans Hgb.out)
  replace lgb := Nat.lt_of_lt_of_le lgb hq.size
  replace Hgx := Go.Lib.hid ((hq.block _ lgx).trans Hgx.out)
  replace lgx := Nat.lt_of_lt_of_le lgx hq.size
  replace GL := Go.Lib.hid (GL.out.below hq)
  replace Nc := Go.Lib.hid ((Nc.out.below hq).mono hq.size)
  replace Na := Go.Lib.hid ((Na.out.below hq).mono hq.size)
  replace Nb := Go.Lib.hid ((Nb.out.below hq).mono hq.size)
  replace Nx := Go.Lib.hid ((Nx.out.below hq).mono hq.size)
  replace Nw := Go.Lib.hid ((Nw.out.below hq).mono hq.size)
  replace HB := Go.Lib.hid (HB.out.trans (hq.mono HB.out.size))
  obtain ⟨gw, hgw⟩ : ∃ g, w5.heap.size = g := ⟨_, rfl⟩
  rw [hgw] at k lgw ⊢
  have Hgw := Go.Lib.hid k
  clear k hq hgw
  cases b1 with
  | false =>
    have cgx_0 := cell_of_block (i := 0) Hgx.out (v := .int .i64 Vx) rfl
    have cgx_1 := cell_of_block (i := 1) Hgx.out (v := .slice ax mx.length kx) rfl
    have cgx_2 := cell_of_block (i := 2) Hgx.out (v := .int .i64 Rx) rfl
    have cgw_0 := cell_of_block (i := 0) Hgw.out (v := .int .i64 Vx) rfl
    have cgw_1 := cell_of_block (i := 1) Hgw.out (v := .slice aw mx.length kw) rfl
    have cgw_2 := cell_of_block (i := 2) Hgw.out (v := .int .i64 Rx) rfl
    go_wp2_with fail
    refine (c_ldBdd (B := w6.heap.size) Vx Rx Vx Rx w6 (Nat.le_refl _) Nx.out Nw.out).mono ?_
    rintro e wz ⟨hb, hq⟩
    obtain rfl := boolIs_t ⟨rfl, rfl, rfl⟩ hb
    have HF := Go.Lib.hid (HB.out.trans (hq.mono HB.out.size))
    clear hb hq cgx_0 cgx_1 cgx_2 cgw_0 cgw_1 cgw_2
    go_wp2_with fail
    go_ret
    exact ⟨rfl, HF.out⟩
  | true =>
    obtain ⟨⟨⟨e1, hoc, hoa⟩, e2, -, hob⟩, ha⟩ := CB.out.yes
    subst e1
    subst e2
    have hv := hoc.hv
    obtain ⟨e1, hox, hex, -⟩ := ha.is hv
    have e1 := e1.symm
    subst e1
    have Oc := Go.Lib.hid hoc
    have Oa := Go.Lib.hid hoa
    have Ob := Go.Lib.hid hob
    have Ox := Go.Lib.hid hox
    have Ex := Go.Lib.hid hex
    clear hoc hoa hob hox hex ha CB
    have cgx_0 := cell_of_block (i := 0) Hgx.out (v := .int .i64 Vc) rfl
    have cgx_1 := cell_of_block (i := 1) Hgx.out (v := .slice ax mx.length kx) rfl
    have cgx_2 := cell_of_block (i := 2) Hgx.out (v := .int .i64 Rx) rfl
    have cgw_0 := cell_of_block (i := 0) Hgw.out (v := .int .i64 Vc) rfl
    have cgw_1 := cell_of_block (i := 1) Hgw.out (v := .slice aw mx.length kw) rfl
    have cgw_2 := cell_of_block (i := 2) Hgw.out (v := .int .i64 Rx) rfl
    go_wp2_with fail
    refine (c_ldBdd (B := w6.heap.size) Vc Rx Vc Rx w6 (Nat.le_refl _) Nx.out Nw.out).mono ?_
    rintro e w7 ⟨hb, hq⟩
    replace Hgc := Go.Lib.hid ((hq.block _ lgc).trans Hgc.out)
    replace lgc := Nat.lt_of_lt_of_le lgc hq.size
    replace Hga := Go.Lib.hid ((hq.block _ lga).trans Hga.out)
    replace lga := Nat.lt_of_lt_of_le lga hq.size
    replace Hgb := Go.Lib.hid ((hq.block _ lgb).trans Hgb.out)
    replace lgb := Nat.lt_of_lt_of_le lgb hq.size
    replace Hgx := Go.Lib.hid ((hq.block _ lgx).trans Hgx.out)
    replace lgx := Nat.lt_of_lt_of_le lgx hq.size
    replace Hgw := Go.Lib.hid ((hq.block _ lgw).trans Hgw.out)
    replace lgw := Nat.lt_of_lt_of_le lgw hq.size
    replace GL := Go.Lib.hid (GL.out.below hq)
    replace Nc := Go.Lib.hid ((Nc.out.below hq).mono hq.size)
    replace Na := Go.Lib.hid ((Na.out.below hq).mono hq.size)
    replace Nb := Go.Lib.hid ((Nb.out.below hq).mono hq.size)
    replace Nx := Go.Lib.hid ((Nx.out.below hq).mono hq.size)
    replace Nw := Go.Lib.hid ((Nw.out.below hq).mono hq.size)
    replace HB := Go.Lib.hid (HB.out.trans (hq.mono HB.out.size))
    clear cgx_0 cgx_1 cgx_2 cgw_0 cgw_1 cgw_2
    obtain rfl := boolIs_t ⟨rfl, rfl, rfl⟩ hb
    clear hb hq Nw Hgw lgw
    have hwv : wrap64 (Vc + 1) = Vc + 1 := IntWalk.wrap64_in _ (by omega)
    have hwv2 : IntKind.i64.wrap (Vc + 1) = Vc + 1 := IntWalk.i64_in _ (by omega)
    have hvz : ¬ Vc + 1 = 0 := by omega
    have HBX := Go.Lib.hid (show ∀ w', Below w7.heap.size w7 w' → (fun w' => w'.cell? ⟨gc, 0, none⟩ = some (.int .i64 Vc) ∧ w'.cell? ⟨gc, 1, none⟩ = some (.slice ac lc cc) ∧ w'.cell? ⟨gc, 2, none⟩ = some (.int .i64 Rc)) w' from fun w' hb => ⟨keepc hb lgc (cell_of_block (i := 0) Hgc.out (v := .int .i64 Vc) rfl), keepc hb lgc (cell_of_block (i := 1) Hgc.out (v := .slice ac lc cc) rfl), keepc hb lgc (cell_of_block (i := 2) Hgc.out (v := .int .i64 Rc) rfl)⟩)
    have HQ0 := Go.Lib.hid (show Below w7.heap.size w7 w7.drew from (Below.refl _ w7).drew)
    have hS0 := HBX.out _ HQ0.out
    go_upto_region 10 with fail
    refine wp_region_held_drew (S := (fun w' => w'.cell? ⟨gc, 0, none⟩ = some (.int .i64 Vc) ∧ w'.cell? ⟨gc, 1, none⟩ = some (.slice ac lc cc) ∧ w'.cell? ⟨gc, 2, none⟩ = some (.int .i64 Rc))) (by kernel_rfl) ?_ (fun hHeld => ?_)
    · first | exact hS0 | exact HBX.out _ HQ1.out | exact HBX.out _ HQ0.out
    refine tL 0 (some 61) ?_
    refine tL 2 (some 63) ?_
    refine tL 3 (some 64) ?_
    refine tL 4 (some 65) ?_
    refine wpAnyH_ready (rs := [1]) (by kernel_rfl) (by simp) ?_
    refine AllReadyH.cons (o := _) rfl (fun K hK => ?_) AllReadyH.nil
    go_simp
    refine (c_ldByte (B := W.heap.size) 0 _ (HM.out.below (HB.out.trans (HQ0.out.mono HB.out.size))) (by omega) (by omega)).mono ?_
    rintro e v1 ⟨v, rfl, hv0, hv1, hq⟩
    have HQ1 := Go.Lib.hid (HQ0.out.trans (hq.mono HQ0.out.size))
    clear hq
    have htm : v.tmod (Vc + 1) = v % (Vc + 1) := Int.tmod_eq_emod_of_nonneg hv0
    (try go_wp2_with fail)
    (try clear hHeld)
    refine hK.out _ _ ?_ (fun hHeld => ?_)
    · first | exact hS0 | exact HBX.out _ HQ1.out | exact HBX.out _ HQ0.out
    clear hK K
    (try simp only [Act.put, List.setIfInBounds_toArray, List.set_cons_zero, List.set_cons_succ])
    refine tL 5 (some 66) ?_
    refine tL 6 (some 12) ?_
    refine wpAnyH_done (by kernel_rfl) ?_ _
    clear hHeld hS0 HBX
    have hq := HQ1.out
    replace Hgc := Go.Lib.hid ((hq.block _ lgc).trans Hgc.out)
    replace lgc := Nat.lt_of_lt_of_le lgc hq.size
    replace Hga := Go.Lib.hid ((hq.block _ lga).trans Hga.out)
    replace lga := Nat.lt_of_lt_of_le lga hq.size
    replace Hgb := Go.Lib.hid ((hq.block _ lgb).trans Hgb.out)
    replace lgb := Nat.lt_of_lt_of_le lgb hq.size
    replace Hgx := Go.Lib.hid ((hq.block _ lgx).trans Hgx.out)
    replace lgx := Nat.lt_of_lt_of_le lgx hq.size
    replace GL := Go.Lib.hid (GL.out.below hq)
    replace Nc := Go.Lib.hid ((Nc.out.below hq).mono hq.size)
    replace Na := Go.Lib.hid ((Na.out.below hq).mono hq.size)
    replace Nb := Go.Lib.hid ((Nb.out.below hq).mono hq.size)
    replace Nx := Go.Lib.hid ((Nx.out.below hq).mono hq.size)
    replace HB := Go.Lib.hid (HB.out.trans (hq.mono HB.out.size))
    clear hq HQ0 HQ1
    go_upto_region 11 with fail
    obtain ⟨i, hi, hi0, hi1⟩ : ∃ i, v % (Vc + 1) = i ∧ 0 ≤ i ∧ i ≤ Vc := ⟨_, rfl, Int.emod_nonneg _ hvz, by have := Int.emod_lt_of_pos v (show 0 < Vc + 1 by omega); omega⟩
    rw [hi]
    clear hi htm hv0 hv1 hwv hwv2 hvz
    have cgc_0 := cell_of_block (i := 0) Hgc.out (v := .int .i64 Vc) rfl
    have cgc_1 := cell_of_block (i := 1) Hgc.out (v := .slice ac lc cc) rfl
    have cgc_2 := cell_of_block (i := 2) Hgc.out (v := .int .i64 Rc) rfl
    go_wp2_with fail
    refine (c_BddVarI Vc i v1 GL.out).mono ?_
    rintro e w9 ⟨x, Vv, Rv, bv, mv, rfl, how, hrel, hq⟩
    replace Hgc := Go.Lib.hid ((hq.block _ lgc).trans Hgc.out)
    replace lgc := Nat.lt_of_lt_of_le lgc hq.size
    replace Hga := Go.Lib.hid ((hq.block _ lga).trans Hga.out)
    replace lga := Nat.lt_of_lt_of_le lga hq.size
    replace Hgb := Go.Lib.hid ((hq.block _ lgb).trans Hgb.out)
    replace lgb := Nat.lt_of_lt_of_le lgb hq.size
    replace Hgx := Go.Lib.hid ((hq.block _ lgx).trans Hgx.out)
    replace lgx := Nat.lt_of_lt_of_le lgx hq.size
    replace GL := Go.Lib.hid (GL.out.below hq)
    replace Nc := Go.Lib.hid ((Nc.out.below hq).mono hq.size)
    replace Na := Go.Lib.hid ((Na.out.below hq).mono hq.size)
    replace Nb := Go.Lib.hid ((Nb.out.below hq).mono hq.size)
    replace Nx := Go.Lib.hid ((Nx.out.below hq).mono hq.size)
    replace HB := Go.Lib.hid (HB.out.trans (hq.mono HB.out.size))
    clear cgc_0 cgc_1 cgc_2
    obtain ⟨av, kv, rfl, -⟩ := OwnN.form how
    have Nv := Go.Lib.hid (OwnN.bns how rfl)
    have CV := Go.Lib.hid hrel
    clear how hrel hq
    go_upto_region 12 with fail
    refine code_gen (R := fun wb => wb.heap[w9.heap.size]? = some (.cells #[.int .i64 Vv, .slice av mv.length kv, .int .i64 Rv] 25 (0, 0)) ∧ Below w9.heap.size w9 wb) ⟨by first | exact (MapKept.heap_alloc _ _).1 | exact heap_alloc_new _ _, by go_grown⟩ ?_
    rintro w10 ⟨k, hq⟩
    have lgv : w9.heap.size < w10.heap.size := (Array.getElem?_eq_some_iff.1 k).1
    replace Hgc := Go.Lib.hid ((hq.block _ lgc).trans Hgc.out)
    replace lgc := Nat.lt_of_lt_of_le lgc hq.size
    replace Hga := Go.Lib.hid ((hq.block _ lga).trans Hga.out)
    replace lga := Nat.lt_of_lt_of_le lga hq.size
    replace Hgb := Go.Lib.hid ((hq.block _ lgb).trans Hgb.out)
    replace lgb := Nat.lt_of_lt_of_le lgb hq.size
    replace Hgx := Go.Lib.hid ((hq.block _ lgx).trans Hgx.out)
    replace lgx := Nat.lt_of_lt_of_le lgx hq.size
    replace GL := Go.Lib.hid (GL.out.below hq)
    replace Nc := Go.Lib.hid ((Nc.out.below hq).mono hq.size)
    replace Na := Go.Lib.hid ((Na.out.below hq).mono hq.size)
    replace Nb := Go.Lib.hid ((Nb.out.below hq).mono hq.size)
    replace Nx := Go.Lib.hid ((Nx.out.below hq).mono hq.size)
    replace Nv := Go.Lib.hid ((Nv.out.below hq).mono hq.size)
    replace HB := Go.Lib.hid (HB.out.trans (hq.mono HB.out.size))
    obtain ⟨gv, hgv⟩ : ∃ g, w9.heap.size = g := ⟨_, rfl⟩
    rw [hgv] at k lgv ⊢
    have Hgv := Go.Lib.hid k
    clear k hq hgv
    by_cases hiv : i < Vc
    · have hiv2 : decide (i < Vc) = true := decide_eq_true hiv
      have hp : varsB Vc = true ∧ 0 ≤ i ∧ i < Vc := ⟨decide_eq_true hv, hi0, hiv⟩
      obtain ⟨hav, hbv⟩ : AnsR Vc (fun c => decide (bitN c i = 1)) Vv mv Rv bv ∧ bv = true := by rcases CV.out with ⟨-, h⟩ | ⟨h, -⟩; exact ⟨h, h.bit hv.1 ⟨hi0, hiv⟩⟩; exact absurd hp h
      subst hbv
      obtain ⟨e1, hov, hev, -⟩ := hav.is hv
      have e1 := e1.symm
      subst e1
      have Ov := Go.Lib.hid hov
      have Ev := Go.Lib.hid hev
      clear hp hav hov hev CV
      have cgc_0 := cell_of_block (i := 0) Hgc.out (v := .int .i64 Vc) rfl
      have cgc_1 := cell_of_block (i := 1) Hgc.out (v := .slice ac lc cc) rfl
      have cgc_2 := cell_of_block (i := 2) Hgc.out (v := .int .i64 Rc) rfl
      go_upto_region 14 with fail
      clear cgc_0 cgc_1 cgc_2
      have cgc_0 := cell_of_block (i := 0) Hgc.out (v := .int .i64 Vc) rfl
      have cgc_1 := cell_of_block (i := 1) Hgc.out (v := .slice ac lc cc) rfl
      have cgc_2 := cell_of_block (i := 2) Hgc.out (v := .int .i64 Rc) rfl
      go_wp2_with fail
      refine (c_BddConstI Vc true Vc 1 true (by unfold cR; rw [if_pos (show varsB Vc = true from decide_eq_true hv)]; rfl) w10).mono ?_
      rintro e w11 ⟨rfl, hq⟩
      replace Hgc := Go.Lib.hid ((hq.block _ lgc).trans Hgc.out)
      replace lgc := Nat.lt_of_lt_of_le lgc hq.size
      replace Hga := Go.Lib.hid ((hq.block _ lga).trans Hga.out)
      replace lga := Nat.lt_of_lt_of_le lga hq.size
      replace Hgb := Go.Lib.hid ((hq.block _ lgb).trans Hgb.out)
      replace lgb := Nat.lt_of_lt_of_le lgb hq.size
      replace Hgx := Go.Lib.hid ((hq.block _ lgx).trans Hgx.out)
      replace lgx := Nat.lt_of_lt_of_le lgx hq.size
      replace Hgv := Go.Lib.hid ((hq.block _ lgv).trans Hgv.out)
      replace lgv := Nat.lt_of_lt_of_le lgv hq.size
      replace GL := Go.Lib.hid (GL.out.below hq)
      replace Nc := Go.Lib.hid ((Nc.out.below hq).mono hq.size)
      replace Na := Go.Lib.hid ((Na.out.below hq).mono hq.size)
      replace Nb := Go.Lib.hid ((Nb.out.below hq).mono hq.size)
      replace Nx := Go.Lib.hid ((Nx.out.below hq).mono hq.size)
      replace Nv := Go.Lib.hid ((Nv.out.below hq).mono hq.size)
      replace HB := Go.Lib.hid (HB.out.trans (hq.mono HB.out.size))
      clear cgc_0 cgc_1 cgc_2
      clear hq
      go_upto_region 15 with fail
      refine code_gen (R := fun wb => wb.heap[w11.heap.size]? = some (.cells #[.int .i64 Vc, .slice none 0 0, .int .i64 1] 25 (0, 0)) ∧ Below w11.heap.size w11 wb) ⟨by first | exact (MapKept.heap_alloc _ _).1 | exact heap_alloc_new _ _, by go_grown⟩ ?_
      rintro w12 ⟨k, hq⟩
      have lgy : w11.heap.size < w12.heap.size := (Array.getElem?_eq_some_iff.1 k).1
      replace Hgc := Go.Lib.hid ((hq.block _ lgc).trans Hgc.out)
      replace lgc := Nat.lt_of_lt_of_le lgc hq.size
      replace Hga := Go.Lib.hid ((hq.block _ lga).trans Hga.out)
      replace lga := Nat.lt_of_lt_of_le lga hq.size
      replace Hgb := Go.Lib.hid ((hq.block _ lgb).trans Hgb.out)
      replace lgb := Nat.lt_of_lt_of_le lgb hq.size
      replace Hgx := Go.Lib.hid ((hq.block _ lgx).trans Hgx.out)
      replace lgx := Nat.lt_of_lt_of_le lgx hq.size
      replace Hgv := Go.Lib.hid ((hq.block _ lgv).trans Hgv.out)
      replace lgv := Nat.lt_of_lt_of_le lgv hq.size
      replace GL := Go.Lib.hid (GL.out.below hq)
      replace Nc := Go.Lib.hid ((Nc.out.below hq).mono hq.size)
      replace Na := Go.Lib.hid ((Na.out.below hq).mono hq.size)
      replace Nb := Go.Lib.hid ((Nb.out.below hq).mono hq.size)
      replace Nx := Go.Lib.hid ((Nx.out.below hq).mono hq.size)
      replace Nv := Go.Lib.hid ((Nv.out.below hq).mono hq.size)
      replace HB := Go.Lib.hid (HB.out.trans (hq.mono HB.out.size))
      obtain ⟨gy, hgy⟩ : ∃ g, w11.heap.size = g := ⟨_, rfl⟩
      rw [hgy] at k lgy ⊢
      have Hgy := Go.Lib.hid k
      clear k hq hgy
      have cgc_0 := cell_of_block (i := 0) Hgc.out (v := .int .i64 Vc) rfl
      have cgc_1 := cell_of_block (i := 1) Hgc.out (v := .slice ac lc cc) rfl
      have cgc_2 := cell_of_block (i := 2) Hgc.out (v := .int .i64 Rc) rfl
      go_wp2_with fail
      refine (c_BddConstI Vc false Vc 0 true (by unfold cR; rw [if_pos (show varsB Vc = true from decide_eq_true hv)]; rfl) w12).mono ?_
      rintro e w13 ⟨rfl, hq⟩
      replace Hgc := Go.Lib.hid ((hq.block _ lgc).trans Hgc.out)
      replace lgc := Nat.lt_of_lt_of_le lgc hq.size
      replace Hga := Go.Lib.hid ((hq.block _ lga).trans Hga.out)
      replace lga := Nat.lt_of_lt_of_le lga hq.size
      replace Hgb := Go.Lib.hid ((hq.block _ lgb).trans Hgb.out)
      replace lgb := Nat.lt_of_lt_of_le lgb hq.size
      replace Hgx := Go.Lib.hid ((hq.block _ lgx).trans Hgx.out)
      replace lgx := Nat.lt_of_lt_of_le lgx hq.size
      replace Hgv := Go.Lib.hid ((hq.block _ lgv).trans Hgv.out)
      replace lgv := Nat.lt_of_lt_of_le lgv hq.size
      replace Hgy := Go.Lib.hid ((hq.block _ lgy).trans Hgy.out)
      replace lgy := Nat.lt_of_lt_of_le lgy hq.size
      replace GL := Go.Lib.hid (GL.out.below hq)
      replace Nc := Go.Lib.hid ((Nc.out.below hq).mono hq.size)
      replace Na := Go.Lib.hid ((Na.out.below hq).mono hq.size)
      replace Nb := Go.Lib.hid ((Nb.out.below hq).mono hq.size)
      replace Nx := Go.Lib.hid ((Nx.out.below hq).mono hq.size)
      replace Nv := Go.Lib.hid ((Nv.out.below hq).mono hq.size)
      replace HB := Go.Lib.hid (HB.out.trans (hq.mono HB.out.size))
      clear cgc_0 cgc_1 cgc_2
      clear hq
      go_upto_region 16 with fail
      refine code_gen (R := fun wb => wb.heap[w13.heap.size]? = some (.cells #[.int .i64 Vc, .slice none 0 0, .int .i64 0] 25 (0, 0)) ∧ Below w13.heap.size w13 wb) ⟨by first | exact (MapKept.heap_alloc _ _).1 | exact heap_alloc_new _ _, by go_grown⟩ ?_
      rintro w14 ⟨k, hq⟩
      have lgn : w13.heap.size < w14.heap.size := (Array.getElem?_eq_some_iff.1 k).1
      replace Hgc := Go.Lib.hid ((hq.block _ lgc).trans Hgc.out)
      replace lgc := Nat.lt_of_lt_of_le lgc hq.size
      replace Hga := Go.Lib.hid ((hq.block _ lga).trans Hga.out)
      replace lga := Nat.lt_of_lt_of_le lga hq.size
      replace Hgb := Go.Lib.hid ((hq.block _ lgb).trans Hgb.out)
      replace lgb := Nat.lt_of_lt_of_le lgb hq.size
      replace Hgx := Go.Lib.hid ((hq.block _ lgx).trans Hgx.out)
      replace lgx := Nat.lt_of_lt_of_le lgx hq.size
      replace Hgv := Go.Lib.hid ((hq.block _ lgv).trans Hgv.out)
      replace lgv := Nat.lt_of_lt_of_le lgv hq.size
      replace Hgy := Go.Lib.hid ((hq.block _ lgy).trans Hgy.out)
      replace lgy := Nat.lt_of_lt_of_le lgy hq.size
      replace GL := Go.Lib.hid (GL.out.below hq)
      replace Nc := Go.Lib.hid ((Nc.out.below hq).mono hq.size)
      replace Na := Go.Lib.hid ((Na.out.below hq).mono hq.size)
      replace Nb := Go.Lib.hid ((Nb.out.below hq).mono hq.size)
      replace Nx := Go.Lib.hid ((Nx.out.below hq).mono hq.size)
      replace Nv := Go.Lib.hid ((Nv.out.below hq).mono hq.size)
      replace HB := Go.Lib.hid (HB.out.trans (hq.mono HB.out.size))
      obtain ⟨gn, hgn⟩ : ∃ g, w13.heap.size = g := ⟨_, rfl⟩
      rw [hgn] at k lgn ⊢
      have Hgn := Go.Lib.hid k
      clear k hq hgn
      go_wp2_with fail
      clear hiv2
      go_loopw [19, 20, 21] (fun q _ _ wr => ∃ k : Nat, 1 ≤ k ∧ k ≤ 10 ∧ q = .int .i64 k ∧ Below w14.heap.size w14 wr) (fun q _ _ _ => 10 - (intOf q).toNat)
      case atStart => exact ⟨1, by omega, by omega, rfl, Below.refl _ _⟩
      case round =>
        obtain ⟨k, hk1, hk, rfl, hq⟩ := hrel
        have HW := Go.Lib.hid hq
        replace Hgc := Go.Lib.hid ((hq.block _ lgc).trans Hgc.out)
        replace lgc := Nat.lt_of_lt_of_le lgc hq.size
        replace Hga := Go.Lib.hid ((hq.block _ lga).trans Hga.out)
        replace lga := Nat.lt_of_lt_of_le lga hq.size
        replace Hgb := Go.Lib.hid ((hq.block _ lgb).trans Hgb.out)
        replace lgb := Nat.lt_of_lt_of_le lgb hq.size
        replace Hgx := Go.Lib.hid ((hq.block _ lgx).trans Hgx.out)
        replace lgx := Nat.lt_of_lt_of_le lgx hq.size
        replace Hgv := Go.Lib.hid ((hq.block _ lgv).trans Hgv.out)
        replace lgv := Nat.lt_of_lt_of_le lgv hq.size
        replace Hgy := Go.Lib.hid ((hq.block _ lgy).trans Hgy.out)
        replace lgy := Nat.lt_of_lt_of_le lgy hq.size
        replace Hgn := Go.Lib.hid ((hq.block _ lgn).trans Hgn.out)
        replace lgn := Nat.lt_of_lt_of_le lgn hq.size
        replace GL := Go.Lib.hid (GL.out.below hq)
        replace Nc := Go.Lib.hid ((Nc.out.below hq).mono hq.size)
        replace Na := Go.Lib.hid ((Na.out.below hq).mono hq.size)
        replace Nb := Go.Lib.hid ((Nb.out.below hq).mono hq.size)
        replace Nx := Go.Lib.hid ((Nx.out.below hq).mono hq.size)
        replace Nv := Go.Lib.hid ((Nv.out.below hq).mono hq.size)
        replace HB := Go.Lib.hid (HB.out.trans (hq.mono HB.out.size))
        clear hq
        by_cases hkl : k < 10
        · have hki : (k : Int) < 10 := by omega
          have hpw := p2_pos Vc.toNat
          have hpz : ¬ (2 : Int) ^ Vc.toNat = 0 := by omega
          have hw2 := wrap_p2 (n := Vc) (by omega)
          have hp13 := p2_13 hv.1 hv.2
          have hw3 : wrap64 (2 ^ min (IntKind.u64.wrap Vc).toNat 64) = 2 ^ Vc.toNat := by rw [IntWalk.u64_in _ (by omega), Nat.min_eq_left (by omega)]; exact hw2
          have hu3 : min (IntKind.u64.wrap Vc).toNat 64 = Vc.toNat := by rw [IntWalk.u64_in _ (by omega)]; omega
          have hu4 : IntKind.u64.wrap Vc = Vc := IntWalk.u64_in _ (by omega)
          have hw8 : IntKind.i64.wrap (2 ^ Vc.toNat) = 2 ^ Vc.toNat := pow_i64 hv.1 hv.2
          have hw9 : IntKind.i64.wrap (2 ^ (IntKind.u64.wrap Vc).toNat) = 2 ^ Vc.toNat := by rw [hu4]; exact hw8
          have HBX := Go.Lib.hid (show ∀ w', Below wr.heap.size wr w' → (fun w' => w'.cell? ⟨gc, 0, none⟩ = some (.int .i64 Vc) ∧ w'.cell? ⟨gc, 1, none⟩ = some (.slice ac lc cc) ∧ w'.cell? ⟨gc, 2, none⟩ = some (.int .i64 Rc)) w' from fun w' hb => ⟨keepc hb lgc (cell_of_block (i := 0) Hgc.out (v := .int .i64 Vc) rfl), keepc hb lgc (cell_of_block (i := 1) Hgc.out (v := .slice ac lc cc) rfl), keepc hb lgc (cell_of_block (i := 2) Hgc.out (v := .int .i64 Rc) rfl)⟩)
          have HQ0 := Go.Lib.hid (show Below wr.heap.size wr wr.drew from (Below.refl _ wr).drew)
          have hS0 := HBX.out _ HQ0.out
          go_upto_region 19 with fail
          refine wp_region_held_drew (S := (fun w' => w'.cell? ⟨gc, 0, none⟩ = some (.int .i64 Vc) ∧ w'.cell? ⟨gc, 1, none⟩ = some (.slice ac lc cc) ∧ w'.cell? ⟨gc, 2, none⟩ = some (.int .i64 Rc))) (by kernel_rfl) ?_ (fun hHeld => ?_)
          · first | exact hS0 | exact HBX.out _ HQ1.out | exact HBX.out _ HQ0.out
          refine tL 0 (some 96) ?_
          refine tL 1 (some 97) ?_
          refine tL 4 (some 100) ?_
          refine tL 6 (some 102) ?_
          refine tL 7 (some 103) ?_
          refine tL 8 (some 104) ?_
          refine tL 9 (some 105) ?_
          refine wpAnyH_ready (rs := [2]) (by kernel_rfl) (by simp) ?_
          refine AllReadyH.cons (o := _) rfl (fun K hK => ?_) AllReadyH.nil
          go_simp
          refine (c_ldByte (B := W.heap.size) (k : Int) _ (HM.out.below (HB.out.trans (HQ0.out.mono HB.out.size))) (by omega) (by omega)).mono ?_
          rintro e v1 ⟨v, rfl, hv0, hv1, hq⟩
          have HQ1 := Go.Lib.hid (HQ0.out.trans (hq.mono HQ0.out.size))
          clear hq
          have hw4 : wrap64 (v * 29) = v * 29 := IntWalk.wrap64_in _ (by omega)
          have hw5 : wrap64 (v * 29 + (k : Int)) = v * 29 + (k : Int) := IntWalk.wrap64_in _ (by omega)
          have hw6 : IntKind.i64.wrap (v * 29) = v * 29 := IntWalk.i64_in _ (by omega)
          have hw7 : IntKind.i64.wrap (v * 29 + (k : Int)) = v * 29 + (k : Int) := IntWalk.i64_in _ (by omega)
          have htm : (v * 29 + (k : Int)).tmod (2 ^ Vc.toNat) = (v * 29 + (k : Int)) % 2 ^ Vc.toNat := Int.tmod_eq_emod_of_nonneg (by omega)
          (try go_wp2_with fail)
          (try clear hHeld)
          refine hK.out _ _ ?_ (fun hHeld => ?_)
          · first | exact hS0 | exact HBX.out _ HQ1.out | exact HBX.out _ HQ0.out
          clear hK K
          (try simp only [Act.put, List.setIfInBounds_toArray, List.set_cons_zero, List.set_cons_succ])
          refine tL 3 (some 99) ?_
          refine tL 5 (some 101) ?_
          refine tL 10 (some 106) ?_
          refine tL 11 (some 20) ?_
          refine wpAnyH_done (by kernel_rfl) ?_ _
          clear hHeld hS0 HBX
          have hq := HQ1.out
          replace Hgc := Go.Lib.hid ((hq.block _ lgc).trans Hgc.out)
          replace lgc := Nat.lt_of_lt_of_le lgc hq.size
          replace Hga := Go.Lib.hid ((hq.block _ lga).trans Hga.out)
          replace lga := Nat.lt_of_lt_of_le lga hq.size
          replace Hgb := Go.Lib.hid ((hq.block _ lgb).trans Hgb.out)
          replace lgb := Nat.lt_of_lt_of_le lgb hq.size
          replace Hgx := Go.Lib.hid ((hq.block _ lgx).trans Hgx.out)
          replace lgx := Nat.lt_of_lt_of_le lgx hq.size
          replace Hgv := Go.Lib.hid ((hq.block _ lgv).trans Hgv.out)
          replace lgv := Nat.lt_of_lt_of_le lgv hq.size
          replace Hgy := Go.Lib.hid ((hq.block _ lgy).trans Hgy.out)
          replace lgy := Nat.lt_of_lt_of_le lgy hq.size
          replace Hgn := Go.Lib.hid ((hq.block _ lgn).trans Hgn.out)
          replace lgn := Nat.lt_of_lt_of_le lgn hq.size
          replace GL := Go.Lib.hid (GL.out.below hq)
          replace Nc := Go.Lib.hid ((Nc.out.below hq).mono hq.size)
          replace Na := Go.Lib.hid ((Na.out.below hq).mono hq.size)
          replace Nb := Go.Lib.hid ((Nb.out.below hq).mono hq.size)
          replace Nx := Go.Lib.hid ((Nx.out.below hq).mono hq.size)
          replace Nv := Go.Lib.hid ((Nv.out.below hq).mono hq.size)
          replace HW := Go.Lib.hid (HW.out.trans (hq.mono HW.out.size))
          replace HB := Go.Lib.hid (HB.out.trans (hq.mono HB.out.size))
          clear hq HQ0 HQ1
          go_upto_region 20 with fail
          obtain ⟨n, hn, hn0⟩ : ∃ n, (v * 29 + (k : Int)) % 2 ^ Vc.toNat = n ∧ (0 ≤ n ∧ n < 2 ^ Vc.toNat) := ⟨_, rfl, Int.emod_nonneg _ hpz, Int.emod_lt_of_pos _ hpw⟩
          rw [hn]
          clear hn htm hv0 hv1 hw4 hw5 hw6 hw7 hw2 hw3 hu3 hu4 hw8 hw9
          have HN0 := Go.Lib.hid hn0
          have hn1 := hn0.1
          clear hn0 hpw hpz hp13
          have cgb_0 := cell_of_block (i := 0) Hgb.out (v := .int .i64 Vc) rfl
          have cgb_1 := cell_of_block (i := 1) Hgb.out (v := .slice ab lb cb) rfl
          have cgb_2 := cell_of_block (i := 2) Hgb.out (v := .int .i64 Rb) rfl
          go_wp2_with fail
          refine (c_BddEvalI (B := v1.heap.size) Vc Rb n v1 (Nat.le_refl _) Nb.out).mono ?_
          rintro e w17 ⟨hb, hq⟩
          replace Hgc := Go.Lib.hid ((hq.block _ lgc).trans Hgc.out)
          replace lgc := Nat.lt_of_lt_of_le lgc hq.size
          replace Hga := Go.Lib.hid ((hq.block _ lga).trans Hga.out)
          replace lga := Nat.lt_of_lt_of_le lga hq.size
          replace Hgb := Go.Lib.hid ((hq.block _ lgb).trans Hgb.out)
          replace lgb := Nat.lt_of_lt_of_le lgb hq.size
          replace Hgx := Go.Lib.hid ((hq.block _ lgx).trans Hgx.out)
          replace lgx := Nat.lt_of_lt_of_le lgx hq.size
          replace Hgv := Go.Lib.hid ((hq.block _ lgv).trans Hgv.out)
          replace lgv := Nat.lt_of_lt_of_le lgv hq.size
          replace Hgy := Go.Lib.hid ((hq.block _ lgy).trans Hgy.out)
          replace lgy := Nat.lt_of_lt_of_le lgy hq.size
          replace Hgn := Go.Lib.hid ((hq.block _ lgn).trans Hgn.out)
          replace lgn := Nat.lt_of_lt_of_le lgn hq.size
          replace GL := Go.Lib.hid (GL.out.below hq)
          replace Nc := Go.Lib.hid ((Nc.out.below hq).mono hq.size)
          replace Na := Go.Lib.hid ((Na.out.below hq).mono hq.size)
          replace Nb := Go.Lib.hid ((Nb.out.below hq).mono hq.size)
          replace Nx := Go.Lib.hid ((Nx.out.below hq).mono hq.size)
          replace Nv := Go.Lib.hid ((Nv.out.below hq).mono hq.size)
          replace HW := Go.Lib.hid (HW.out.trans (hq.mono HW.out.size))
          replace HB := Go.Lib.hid (HB.out.trans (hq.mono HB.out.size))
          clear cgb_0 cgb_1 cgb_2
          obtain rfl := evl_bool Ob.out HN0.out hb
          clear hb hq
          have cgc_0 := cell_of_block (i := 0) Hgc.out (v := .int .i64 Vc) rfl
          have cgc_1 := cell_of_block (i := 1) Hgc.out (v := .slice ac lc cc) rfl
          have cgc_2 := cell_of_block (i := 2) Hgc.out (v := .int .i64 Rc) rfl
          go_wp2_with fail
          refine (c_BddEvalI (B := w17.heap.size) Vc Rc n w17 (Nat.le_refl _) Nc.out).mono ?_
          rintro e w18 ⟨hb, hq⟩
          replace Hgc := Go.Lib.hid ((hq.block _ lgc).trans Hgc.out)
          replace lgc := Nat.lt_of_lt_of_le lgc hq.size
          replace Hga := Go.Lib.hid ((hq.block _ lga).trans Hga.out)
          replace lga := Nat.lt_of_lt_of_le lga hq.size
          replace Hgb := Go.Lib.hid ((hq.block _ lgb).trans Hgb.out)
          replace lgb := Nat.lt_of_lt_of_le lgb hq.size
          replace Hgx := Go.Lib.hid ((hq.block _ lgx).trans Hgx.out)
          replace lgx := Nat.lt_of_lt_of_le lgx hq.size
          replace Hgv := Go.Lib.hid ((hq.block _ lgv).trans Hgv.out)
          replace lgv := Nat.lt_of_lt_of_le lgv hq.size
          replace Hgy := Go.Lib.hid ((hq.block _ lgy).trans Hgy.out)
          replace lgy := Nat.lt_of_lt_of_le lgy hq.size
          replace Hgn := Go.Lib.hid ((hq.block _ lgn).trans Hgn.out)
          replace lgn := Nat.lt_of_lt_of_le lgn hq.size
          replace GL := Go.Lib.hid (GL.out.below hq)
          replace Nc := Go.Lib.hid ((Nc.out.below hq).mono hq.size)
          replace Na := Go.Lib.hid ((Na.out.below hq).mono hq.size)
          replace Nb := Go.Lib.hid ((Nb.out.below hq).mono hq.size)
          replace Nx := Go.Lib.hid ((Nx.out.below hq).mono hq.size)
          replace Nv := Go.Lib.hid ((Nv.out.below hq).mono hq.size)
          replace HW := Go.Lib.hid (HW.out.trans (hq.mono HW.out.size))
          replace HB := Go.Lib.hid (HB.out.trans (hq.mono HB.out.size))
          clear cgc_0 cgc_1 cgc_2
          obtain rfl := evl_bool Oc.out HN0.out hb
          clear hb hq
          cases hcv : evF mc Rc n with
          | true =>
            have hexn := Ex.out n HN0.out.1 HN0.out.2
            rw [hcv] at hexn
            simp only [if_true] at hexn
            have cga_0 := cell_of_block (i := 0) Hga.out (v := .int .i64 Vc) rfl
            have cga_1 := cell_of_block (i := 1) Hga.out (v := .slice aa la ca) rfl
            have cga_2 := cell_of_block (i := 2) Hga.out (v := .int .i64 Ra) rfl
            go_wp2_with fail
            refine (c_BddEvalI (B := w18.heap.size) Vc Ra n w18 (Nat.le_refl _) Na.out).mono ?_
            rintro e w19 ⟨hb, hq⟩
            replace Hgc := Go.Lib.hid ((hq.block _ lgc).trans Hgc.out)
            replace lgc := Nat.lt_of_lt_of_le lgc hq.size
            replace Hga := Go.Lib.hid ((hq.block _ lga).trans Hga.out)
            replace lga := Nat.lt_of_lt_of_le lga hq.size
            replace Hgb := Go.Lib.hid ((hq.block _ lgb).trans Hgb.out)
            replace lgb := Nat.lt_of_lt_of_le lgb hq.size
            replace Hgx := Go.Lib.hid ((hq.block _ lgx).trans Hgx.out)
            replace lgx := Nat.lt_of_lt_of_le lgx hq.size
            replace Hgv := Go.Lib.hid ((hq.block _ lgv).trans Hgv.out)
            replace lgv := Nat.lt_of_lt_of_le lgv hq.size
            replace Hgy := Go.Lib.hid ((hq.block _ lgy).trans Hgy.out)
            replace lgy := Nat.lt_of_lt_of_le lgy hq.size
            replace Hgn := Go.Lib.hid ((hq.block _ lgn).trans Hgn.out)
            replace lgn := Nat.lt_of_lt_of_le lgn hq.size
            replace GL := Go.Lib.hid (GL.out.below hq)
            replace Nc := Go.Lib.hid ((Nc.out.below hq).mono hq.size)
            replace Na := Go.Lib.hid ((Na.out.below hq).mono hq.size)
            replace Nb := Go.Lib.hid ((Nb.out.below hq).mono hq.size)
            replace Nx := Go.Lib.hid ((Nx.out.below hq).mono hq.size)
            replace Nv := Go.Lib.hid ((Nv.out.below hq).mono hq.size)
            replace HW := Go.Lib.hid (HW.out.trans (hq.mono HW.out.size))
            replace HB := Go.Lib.hid (HB.out.trans (hq.mono HB.out.size))
            clear cga_0 cga_1 cga_2
            obtain rfl := evl_bool Oa.out HN0.out hb
            clear hb hq
            have cgx_0 := cell_of_block (i := 0) Hgx.out (v := .int .i64 Vc) rfl
            have cgx_1 := cell_of_block (i := 1) Hgx.out (v := .slice ax mx.length kx) rfl
            have cgx_2 := cell_of_block (i := 2) Hgx.out (v := .int .i64 Rx) rfl
            go_wp2_with fail
            refine (c_BddEvalI (B := w19.heap.size) Vc Rx n w19 (Nat.le_refl _) Nx.out).mono ?_
            rintro e w20 ⟨hb, hq⟩
            replace Hgc := Go.Lib.hid ((hq.block _ lgc).trans Hgc.out)
            replace lgc := Nat.lt_of_lt_of_le lgc hq.size
            replace Hga := Go.Lib.hid ((hq.block _ lga).trans Hga.out)
            replace lga := Nat.lt_of_lt_of_le lga hq.size
            replace Hgb := Go.Lib.hid ((hq.block _ lgb).trans Hgb.out)
            replace lgb := Nat.lt_of_lt_of_le lgb hq.size
            replace Hgx := Go.Lib.hid ((hq.block _ lgx).trans Hgx.out)
            replace lgx := Nat.lt_of_lt_of_le lgx hq.size
            replace Hgv := Go.Lib.hid ((hq.block _ lgv).trans Hgv.out)
            replace lgv := Nat.lt_of_lt_of_le lgv hq.size
            replace Hgy := Go.Lib.hid ((hq.block _ lgy).trans Hgy.out)
            replace lgy := Nat.lt_of_lt_of_le lgy hq.size
            replace Hgn := Go.Lib.hid ((hq.block _ lgn).trans Hgn.out)
            replace lgn := Nat.lt_of_lt_of_le lgn hq.size
            replace GL := Go.Lib.hid (GL.out.below hq)
            replace Nc := Go.Lib.hid ((Nc.out.below hq).mono hq.size)
            replace Na := Go.Lib.hid ((Na.out.below hq).mono hq.size)
            replace Nb := Go.Lib.hid ((Nb.out.below hq).mono hq.size)
            replace Nx := Go.Lib.hid ((Nx.out.below hq).mono hq.size)
            replace Nv := Go.Lib.hid ((Nv.out.below hq).mono hq.size)
            replace HW := Go.Lib.hid (HW.out.trans (hq.mono HW.out.size))
            replace HB := Go.Lib.hid (HB.out.trans (hq.mono HB.out.size))
            clear cgx_0 cgx_1 cgx_2
            obtain rfl := evl_bool Ox.out HN0.out hb
            clear hb hq
            rw [hexn]
            obtain ⟨bw, hbw⟩ : ∃ b, evF ma Ra n = b := ⟨_, rfl⟩
            rw [hbw]
            clear hexn hbw
            have hbt : n / 2 ^ i.toNat % 2 = 0 ∨ n / 2 ^ i.toNat % 2 = 1 := by omega
            have htm : (n / 2 ^ i.toNat).tmod 2 = n / 2 ^ i.toNat % 2 := Int.tmod_eq_emod_of_nonneg (Int.ediv_nonneg hn1 (by have := p2_pos i.toNat; omega))
            have hmi : min (IntKind.u64.wrap i).toNat 64 = i.toNat := by rw [IntWalk.u64_in _ (by omega)]; omega
            have hmj : (IntKind.u64.wrap i) = i := IntWalk.u64_in _ (by omega)
            have hmk : min i.toNat 64 = i.toNat := by omega
            have hevn := Ev.out n HN0.out.1 HN0.out.2
            have cgv_0 := cell_of_block (i := 0) Hgv.out (v := .int .i64 Vc) rfl
            have cgv_1 := cell_of_block (i := 1) Hgv.out (v := .slice av mv.length kv) rfl
            have cgv_2 := cell_of_block (i := 2) Hgv.out (v := .int .i64 Rv) rfl
            go_wp2_with fail
            refine (c_BddEvalI (B := w20.heap.size) Vc Rv n w20 (Nat.le_refl _) Nv.out).mono ?_
            rintro e w21 ⟨hb, hq⟩
            replace Hgc := Go.Lib.hid ((hq.block _ lgc).trans Hgc.out)
            replace lgc := Nat.lt_of_lt_of_le lgc hq.size
            replace Hga := Go.Lib.hid ((hq.block _ lga).trans Hga.out)
            replace lga := Nat.lt_of_lt_of_le lga hq.size
            replace Hgb := Go.Lib.hid ((hq.block _ lgb).trans Hgb.out)
            replace lgb := Nat.lt_of_lt_of_le lgb hq.size
            replace Hgx := Go.Lib.hid ((hq.block _ lgx).trans Hgx.out)
            replace lgx := Nat.lt_of_lt_of_le lgx hq.size
            replace Hgv := Go.Lib.hid ((hq.block _ lgv).trans Hgv.out)
            replace lgv := Nat.lt_of_lt_of_le lgv hq.size
            replace Hgy := Go.Lib.hid ((hq.block _ lgy).trans Hgy.out)
            replace lgy := Nat.lt_of_lt_of_le lgy hq.size
            replace Hgn := Go.Lib.hid ((hq.block _ lgn).trans Hgn.out)
            replace lgn := Nat.lt_of_lt_of_le lgn hq.size
            replace GL := Go.Lib.hid (GL.out.below hq)
            replace Nc := Go.Lib.hid ((Nc.out.below hq).mono hq.size)
            replace Na := Go.Lib.hid ((Na.out.below hq).mono hq.size)
            replace Nb := Go.Lib.hid ((Nb.out.below hq).mono hq.size)
            replace Nx := Go.Lib.hid ((Nx.out.below hq).mono hq.size)
            replace Nv := Go.Lib.hid ((Nv.out.below hq).mono hq.size)
            replace HW := Go.Lib.hid (HW.out.trans (hq.mono HW.out.size))
            replace HB := Go.Lib.hid (HB.out.trans (hq.mono HB.out.size))
            clear cgv_0 cgv_1 cgv_2
            obtain rfl := evl_bool Ov.out HN0.out hb
            clear hb hq
            rw [hevn]
            unfold bitN
            have hd1 : decide (n / 2 ^ i.toNat % 2 = 1) = (n / 2 ^ i.toNat % 2 == 1) := by rcases hbt with h | h <;> rw [h] <;> rfl
            rw [hd1]
            clear hd1 hevn
            rcases hbt with hbt | hbt
            · have cgy_0 := cell_of_block (i := 0) Hgy.out (v := .int .i64 Vc) rfl
              have cgy_1 := cell_of_block (i := 1) Hgy.out (v := .slice none 0 0) rfl
              have cgy_2 := cell_of_block (i := 2) Hgy.out (v := .int .i64 1) rfl
              go_wp2_with fail
              refine (c_BddEvalI (B := w21.heap.size) Vc 1 n w21 (Nat.le_refl _) (nil_bns _ _)).mono ?_
              rintro e w22 ⟨hb, hq⟩
              replace Hgc := Go.Lib.hid ((hq.block _ lgc).trans Hgc.out)
              replace lgc := Nat.lt_of_lt_of_le lgc hq.size
              replace Hga := Go.Lib.hid ((hq.block _ lga).trans Hga.out)
              replace lga := Nat.lt_of_lt_of_le lga hq.size
              replace Hgb := Go.Lib.hid ((hq.block _ lgb).trans Hgb.out)
              replace lgb := Nat.lt_of_lt_of_le lgb hq.size
              replace Hgx := Go.Lib.hid ((hq.block _ lgx).trans Hgx.out)
              replace lgx := Nat.lt_of_lt_of_le lgx hq.size
              replace Hgv := Go.Lib.hid ((hq.block _ lgv).trans Hgv.out)
              replace lgv := Nat.lt_of_lt_of_le lgv hq.size
              replace Hgy := Go.Lib.hid ((hq.block _ lgy).trans Hgy.out)
              replace lgy := Nat.lt_of_lt_of_le lgy hq.size
              replace Hgn := Go.Lib.hid ((hq.block _ lgn).trans Hgn.out)
              replace lgn := Nat.lt_of_lt_of_le lgn hq.size
              replace GL := Go.Lib.hid (GL.out.below hq)
              replace Nc := Go.Lib.hid ((Nc.out.below hq).mono hq.size)
              replace Na := Go.Lib.hid ((Na.out.below hq).mono hq.size)
              replace Nb := Go.Lib.hid ((Nb.out.below hq).mono hq.size)
              replace Nx := Go.Lib.hid ((Nx.out.below hq).mono hq.size)
              replace Nv := Go.Lib.hid ((Nv.out.below hq).mono hq.size)
              replace HW := Go.Lib.hid (HW.out.trans (hq.mono HW.out.size))
              replace HB := Go.Lib.hid (HB.out.trans (hq.mono HB.out.size))
              clear cgy_0 cgy_1 cgy_2
              obtain rfl := evl_bool (no_false hv).1 HN0.out hb
              rw [evF_1]
              clear hb hq
              have cgn_0 := cell_of_block (i := 0) Hgn.out (v := .int .i64 Vc) rfl
              have cgn_1 := cell_of_block (i := 1) Hgn.out (v := .slice none 0 0) rfl
              have cgn_2 := cell_of_block (i := 2) Hgn.out (v := .int .i64 0) rfl
              go_wp2_with fail
              refine (c_BddEvalI (B := w22.heap.size) Vc 0 n w22 (Nat.le_refl _) (nil_bns _ _)).mono ?_
              rintro e w23 ⟨hb, hq⟩
              replace Hgc := Go.Lib.hid ((hq.block _ lgc).trans Hgc.out)
              replace lgc := Nat.lt_of_lt_of_le lgc hq.size
              replace Hga := Go.Lib.hid ((hq.block _ lga).trans Hga.out)
              replace lga := Nat.lt_of_lt_of_le lga hq.size
              replace Hgb := Go.Lib.hid ((hq.block _ lgb).trans Hgb.out)
              replace lgb := Nat.lt_of_lt_of_le lgb hq.size
              replace Hgx := Go.Lib.hid ((hq.block _ lgx).trans Hgx.out)
              replace lgx := Nat.lt_of_lt_of_le lgx hq.size
              replace Hgv := Go.Lib.hid ((hq.block _ lgv).trans Hgv.out)
              replace lgv := Nat.lt_of_lt_of_le lgv hq.size
              replace Hgy := Go.Lib.hid ((hq.block _ lgy).trans Hgy.out)
              replace lgy := Nat.lt_of_lt_of_le lgy hq.size
              replace Hgn := Go.Lib.hid ((hq.block _ lgn).trans Hgn.out)
              replace lgn := Nat.lt_of_lt_of_le lgn hq.size
              replace GL := Go.Lib.hid (GL.out.below hq)
              replace Nc := Go.Lib.hid ((Nc.out.below hq).mono hq.size)
              replace Na := Go.Lib.hid ((Na.out.below hq).mono hq.size)
              replace Nb := Go.Lib.hid ((Nb.out.below hq).mono hq.size)
              replace Nx := Go.Lib.hid ((Nx.out.below hq).mono hq.size)
              replace Nv := Go.Lib.hid ((Nv.out.below hq).mono hq.size)
              replace HW := Go.Lib.hid (HW.out.trans (hq.mono HW.out.size))
              replace HB := Go.Lib.hid (HB.out.trans (hq.mono HB.out.size))
              clear cgn_0 cgn_1 cgn_2
              obtain rfl := evl_bool (no_false hv).2 HN0.out hb
              rw [evF_0]
              clear hb hq
              go_wp2_with fail
              go_roundw
              case rel => exact ⟨k + 1, by omega, by omega, by go_num, HW.out⟩
              case measure => simp [intOf]; omega
            · have cgy_0 := cell_of_block (i := 0) Hgy.out (v := .int .i64 Vc) rfl
              have cgy_1 := cell_of_block (i := 1) Hgy.out (v := .slice none 0 0) rfl
              have cgy_2 := cell_of_block (i := 2) Hgy.out (v := .int .i64 1) rfl
              go_wp2_with fail
              refine (c_BddEvalI (B := w21.heap.size) Vc 1 n w21 (Nat.le_refl _) (nil_bns _ _)).mono ?_
              rintro e w22 ⟨hb, hq⟩
              replace Hgc := Go.Lib.hid ((hq.block _ lgc).trans Hgc.out)
              replace lgc := Nat.lt_of_lt_of_le lgc hq.size
              replace Hga := Go.Lib.hid ((hq.block _ lga).trans Hga.out)
              replace lga := Nat.lt_of_lt_of_le lga hq.size
              replace Hgb := Go.Lib.hid ((hq.block _ lgb).trans Hgb.out)
              replace lgb := Nat.lt_of_lt_of_le lgb hq.size
              replace Hgx := Go.Lib.hid ((hq.block _ lgx).trans Hgx.out)
              replace lgx := Nat.lt_of_lt_of_le lgx hq.size
              replace Hgv := Go.Lib.hid ((hq.block _ lgv).trans Hgv.out)
              replace lgv := Nat.lt_of_lt_of_le lgv hq.size
              replace Hgy := Go.Lib.hid ((hq.block _ lgy).trans Hgy.out)
              replace lgy := Nat.lt_of_lt_of_le lgy hq.size
              replace Hgn := Go.Lib.hid ((hq.block _ lgn).trans Hgn.out)
              replace lgn := Nat.lt_of_lt_of_le lgn hq.size
              replace GL := Go.Lib.hid (GL.out.below hq)
              replace Nc := Go.Lib.hid ((Nc.out.below hq).mono hq.size)
              replace Na := Go.Lib.hid ((Na.out.below hq).mono hq.size)
              replace Nb := Go.Lib.hid ((Nb.out.below hq).mono hq.size)
              replace Nx := Go.Lib.hid ((Nx.out.below hq).mono hq.size)
              replace Nv := Go.Lib.hid ((Nv.out.below hq).mono hq.size)
              replace HW := Go.Lib.hid (HW.out.trans (hq.mono HW.out.size))
              replace HB := Go.Lib.hid (HB.out.trans (hq.mono HB.out.size))
              clear cgy_0 cgy_1 cgy_2
              obtain rfl := evl_bool (no_false hv).1 HN0.out hb
              rw [evF_1]
              clear hb hq
              have cgn_0 := cell_of_block (i := 0) Hgn.out (v := .int .i64 Vc) rfl
              have cgn_1 := cell_of_block (i := 1) Hgn.out (v := .slice none 0 0) rfl
              have cgn_2 := cell_of_block (i := 2) Hgn.out (v := .int .i64 0) rfl
              go_wp2_with fail
              refine (c_BddEvalI (B := w22.heap.size) Vc 0 n w22 (Nat.le_refl _) (nil_bns _ _)).mono ?_
              rintro e w23 ⟨hb, hq⟩
              replace Hgc := Go.Lib.hid ((hq.block _ lgc).trans Hgc.out)
              replace lgc := Nat.lt_of_lt_of_le lgc hq.size
              replace Hga := Go.Lib.hid ((hq.block _ lga).trans Hga.out)
              replace lga := Nat.lt_of_lt_of_le lga hq.size
              replace Hgb := Go.Lib.hid ((hq.block _ lgb).trans Hgb.out)
              replace lgb := Nat.lt_of_lt_of_le lgb hq.size
              replace Hgx := Go.Lib.hid ((hq.block _ lgx).trans Hgx.out)
              replace lgx := Nat.lt_of_lt_of_le lgx hq.size
              replace Hgv := Go.Lib.hid ((hq.block _ lgv).trans Hgv.out)
              replace lgv := Nat.lt_of_lt_of_le lgv hq.size
              replace Hgy := Go.Lib.hid ((hq.block _ lgy).trans Hgy.out)
              replace lgy := Nat.lt_of_lt_of_le lgy hq.size
              replace Hgn := Go.Lib.hid ((hq.block _ lgn).trans Hgn.out)
              replace lgn := Nat.lt_of_lt_of_le lgn hq.size
              replace GL := Go.Lib.hid (GL.out.below hq)
              replace Nc := Go.Lib.hid ((Nc.out.below hq).mono hq.size)
              replace Na := Go.Lib.hid ((Na.out.below hq).mono hq.size)
              replace Nb := Go.Lib.hid ((Nb.out.below hq).mono hq.size)
              replace Nx := Go.Lib.hid ((Nx.out.below hq).mono hq.size)
              replace Nv := Go.Lib.hid ((Nv.out.below hq).mono hq.size)
              replace HW := Go.Lib.hid (HW.out.trans (hq.mono HW.out.size))
              replace HB := Go.Lib.hid (HB.out.trans (hq.mono HB.out.size))
              clear cgn_0 cgn_1 cgn_2
              obtain rfl := evl_bool (no_false hv).2 HN0.out hb
              rw [evF_0]
              clear hb hq
              go_wp2_with fail
              go_roundw
              case rel => exact ⟨k + 1, by omega, by omega, by go_num, HW.out⟩
              case measure => simp [intOf]; omega
          | false =>
            have hexn := Ex.out n HN0.out.1 HN0.out.2
            rw [hcv] at hexn
            simp only [Bool.false_eq_true, if_false] at hexn
            have cgx_0 := cell_of_block (i := 0) Hgx.out (v := .int .i64 Vc) rfl
            have cgx_1 := cell_of_block (i := 1) Hgx.out (v := .slice ax mx.length kx) rfl
            have cgx_2 := cell_of_block (i := 2) Hgx.out (v := .int .i64 Rx) rfl
            go_wp2_with fail
            refine (c_BddEvalI (B := w18.heap.size) Vc Rx n w18 (Nat.le_refl _) Nx.out).mono ?_
            rintro e w19 ⟨hb, hq⟩
            replace Hgc := Go.Lib.hid ((hq.block _ lgc).trans Hgc.out)
            replace lgc := Nat.lt_of_lt_of_le lgc hq.size
            replace Hga := Go.Lib.hid ((hq.block _ lga).trans Hga.out)
            replace lga := Nat.lt_of_lt_of_le lga hq.size
            replace Hgb := Go.Lib.hid ((hq.block _ lgb).trans Hgb.out)
            replace lgb := Nat.lt_of_lt_of_le lgb hq.size
            replace Hgx := Go.Lib.hid ((hq.block _ lgx).trans Hgx.out)
            replace lgx := Nat.lt_of_lt_of_le lgx hq.size
            replace Hgv := Go.Lib.hid ((hq.block _ lgv).trans Hgv.out)
            replace lgv := Nat.lt_of_lt_of_le lgv hq.size
            replace Hgy := Go.Lib.hid ((hq.block _ lgy).trans Hgy.out)
            replace lgy := Nat.lt_of_lt_of_le lgy hq.size
            replace Hgn := Go.Lib.hid ((hq.block _ lgn).trans Hgn.out)
            replace lgn := Nat.lt_of_lt_of_le lgn hq.size
            replace GL := Go.Lib.hid (GL.out.below hq)
            replace Nc := Go.Lib.hid ((Nc.out.below hq).mono hq.size)
            replace Na := Go.Lib.hid ((Na.out.below hq).mono hq.size)
            replace Nb := Go.Lib.hid ((Nb.out.below hq).mono hq.size)
            replace Nx := Go.Lib.hid ((Nx.out.below hq).mono hq.size)
            replace Nv := Go.Lib.hid ((Nv.out.below hq).mono hq.size)
            replace HW := Go.Lib.hid (HW.out.trans (hq.mono HW.out.size))
            replace HB := Go.Lib.hid (HB.out.trans (hq.mono HB.out.size))
            clear cgx_0 cgx_1 cgx_2
            obtain rfl := evl_bool Ox.out HN0.out hb
            clear hb hq
            rw [hexn]
            obtain ⟨bw, hbw⟩ : ∃ b, evF mb Rb n = b := ⟨_, rfl⟩
            rw [hbw]
            clear hexn hbw
            have hbt : n / 2 ^ i.toNat % 2 = 0 ∨ n / 2 ^ i.toNat % 2 = 1 := by omega
            have htm : (n / 2 ^ i.toNat).tmod 2 = n / 2 ^ i.toNat % 2 := Int.tmod_eq_emod_of_nonneg (Int.ediv_nonneg hn1 (by have := p2_pos i.toNat; omega))
            have hmi : min (IntKind.u64.wrap i).toNat 64 = i.toNat := by rw [IntWalk.u64_in _ (by omega)]; omega
            have hmj : (IntKind.u64.wrap i) = i := IntWalk.u64_in _ (by omega)
            have hmk : min i.toNat 64 = i.toNat := by omega
            have hevn := Ev.out n HN0.out.1 HN0.out.2
            have cgv_0 := cell_of_block (i := 0) Hgv.out (v := .int .i64 Vc) rfl
            have cgv_1 := cell_of_block (i := 1) Hgv.out (v := .slice av mv.length kv) rfl
            have cgv_2 := cell_of_block (i := 2) Hgv.out (v := .int .i64 Rv) rfl
            go_wp2_with fail
            refine (c_BddEvalI (B := w19.heap.size) Vc Rv n w19 (Nat.le_refl _) Nv.out).mono ?_
            rintro e w20 ⟨hb, hq⟩
            replace Hgc := Go.Lib.hid ((hq.block _ lgc).trans Hgc.out)
            replace lgc := Nat.lt_of_lt_of_le lgc hq.size
            replace Hga := Go.Lib.hid ((hq.block _ lga).trans Hga.out)
            replace lga := Nat.lt_of_lt_of_le lga hq.size
            replace Hgb := Go.Lib.hid ((hq.block _ lgb).trans Hgb.out)
            replace lgb := Nat.lt_of_lt_of_le lgb hq.size
            replace Hgx := Go.Lib.hid ((hq.block _ lgx).trans Hgx.out)
            replace lgx := Nat.lt_of_lt_of_le lgx hq.size
            replace Hgv := Go.Lib.hid ((hq.block _ lgv).trans Hgv.out)
            replace lgv := Nat.lt_of_lt_of_le lgv hq.size
            replace Hgy := Go.Lib.hid ((hq.block _ lgy).trans Hgy.out)
            replace lgy := Nat.lt_of_lt_of_le lgy hq.size
            replace Hgn := Go.Lib.hid ((hq.block _ lgn).trans Hgn.out)
            replace lgn := Nat.lt_of_lt_of_le lgn hq.size
            replace GL := Go.Lib.hid (GL.out.below hq)
            replace Nc := Go.Lib.hid ((Nc.out.below hq).mono hq.size)
            replace Na := Go.Lib.hid ((Na.out.below hq).mono hq.size)
            replace Nb := Go.Lib.hid ((Nb.out.below hq).mono hq.size)
            replace Nx := Go.Lib.hid ((Nx.out.below hq).mono hq.size)
            replace Nv := Go.Lib.hid ((Nv.out.below hq).mono hq.size)
            replace HW := Go.Lib.hid (HW.out.trans (hq.mono HW.out.size))
            replace HB := Go.Lib.hid (HB.out.trans (hq.mono HB.out.size))
            clear cgv_0 cgv_1 cgv_2
            obtain rfl := evl_bool Ov.out HN0.out hb
            clear hb hq
            rw [hevn]
            unfold bitN
            have hd1 : decide (n / 2 ^ i.toNat % 2 = 1) = (n / 2 ^ i.toNat % 2 == 1) := by rcases hbt with h | h <;> rw [h] <;> rfl
            rw [hd1]
            clear hd1 hevn
            rcases hbt with hbt | hbt
            · have cgy_0 := cell_of_block (i := 0) Hgy.out (v := .int .i64 Vc) rfl
              have cgy_1 := cell_of_block (i := 1) Hgy.out (v := .slice none 0 0) rfl
              have cgy_2 := cell_of_block (i := 2) Hgy.out (v := .int .i64 1) rfl
              go_wp2_with fail
              refine (c_BddEvalI (B := w20.heap.size) Vc 1 n w20 (Nat.le_refl _) (nil_bns _ _)).mono ?_
              rintro e w21 ⟨hb, hq⟩
              replace Hgc := Go.Lib.hid ((hq.block _ lgc).trans Hgc.out)
              replace lgc := Nat.lt_of_lt_of_le lgc hq.size
              replace Hga := Go.Lib.hid ((hq.block _ lga).trans Hga.out)
              replace lga := Nat.lt_of_lt_of_le lga hq.size
              replace Hgb := Go.Lib.hid ((hq.block _ lgb).trans Hgb.out)
              replace lgb := Nat.lt_of_lt_of_le lgb hq.size
              replace Hgx := Go.Lib.hid ((hq.block _ lgx).trans Hgx.out)
              replace lgx := Nat.lt_of_lt_of_le lgx hq.size
              replace Hgv := Go.Lib.hid ((hq.block _ lgv).trans Hgv.out)
              replace lgv := Nat.lt_of_lt_of_le lgv hq.size
              replace Hgy := Go.Lib.hid ((hq.block _ lgy).trans Hgy.out)
              replace lgy := Nat.lt_of_lt_of_le lgy hq.size
              replace Hgn := Go.Lib.hid ((hq.block _ lgn).trans Hgn.out)
              replace lgn := Nat.lt_of_lt_of_le lgn hq.size
              replace GL := Go.Lib.hid (GL.out.below hq)
              replace Nc := Go.Lib.hid ((Nc.out.below hq).mono hq.size)
              replace Na := Go.Lib.hid ((Na.out.below hq).mono hq.size)
              replace Nb := Go.Lib.hid ((Nb.out.below hq).mono hq.size)
              replace Nx := Go.Lib.hid ((Nx.out.below hq).mono hq.size)
              replace Nv := Go.Lib.hid ((Nv.out.below hq).mono hq.size)
              replace HW := Go.Lib.hid (HW.out.trans (hq.mono HW.out.size))
              replace HB := Go.Lib.hid (HB.out.trans (hq.mono HB.out.size))
              clear cgy_0 cgy_1 cgy_2
              obtain rfl := evl_bool (no_false hv).1 HN0.out hb
              rw [evF_1]
              clear hb hq
              have cgn_0 := cell_of_block (i := 0) Hgn.out (v := .int .i64 Vc) rfl
              have cgn_1 := cell_of_block (i := 1) Hgn.out (v := .slice none 0 0) rfl
              have cgn_2 := cell_of_block (i := 2) Hgn.out (v := .int .i64 0) rfl
              go_wp2_with fail
              refine (c_BddEvalI (B := w21.heap.size) Vc 0 n w21 (Nat.le_refl _) (nil_bns _ _)).mono ?_
              rintro e w22 ⟨hb, hq⟩
              replace Hgc := Go.Lib.hid ((hq.block _ lgc).trans Hgc.out)
              replace lgc := Nat.lt_of_lt_of_le lgc hq.size
              replace Hga := Go.Lib.hid ((hq.block _ lga).trans Hga.out)
              replace lga := Nat.lt_of_lt_of_le lga hq.size
              replace Hgb := Go.Lib.hid ((hq.block _ lgb).trans Hgb.out)
              replace lgb := Nat.lt_of_lt_of_le lgb hq.size
              replace Hgx := Go.Lib.hid ((hq.block _ lgx).trans Hgx.out)
              replace lgx := Nat.lt_of_lt_of_le lgx hq.size
              replace Hgv := Go.Lib.hid ((hq.block _ lgv).trans Hgv.out)
              replace lgv := Nat.lt_of_lt_of_le lgv hq.size
              replace Hgy := Go.Lib.hid ((hq.block _ lgy).trans Hgy.out)
              replace lgy := Nat.lt_of_lt_of_le lgy hq.size
              replace Hgn := Go.Lib.hid ((hq.block _ lgn).trans Hgn.out)
              replace lgn := Nat.lt_of_lt_of_le lgn hq.size
              replace GL := Go.Lib.hid (GL.out.below hq)
              replace Nc := Go.Lib.hid ((Nc.out.below hq).mono hq.size)
              replace Na := Go.Lib.hid ((Na.out.below hq).mono hq.size)
              replace Nb := Go.Lib.hid ((Nb.out.below hq).mono hq.size)
              replace Nx := Go.Lib.hid ((Nx.out.below hq).mono hq.size)
              replace Nv := Go.Lib.hid ((Nv.out.below hq).mono hq.size)
              replace HW := Go.Lib.hid (HW.out.trans (hq.mono HW.out.size))
              replace HB := Go.Lib.hid (HB.out.trans (hq.mono HB.out.size))
              clear cgn_0 cgn_1 cgn_2
              obtain rfl := evl_bool (no_false hv).2 HN0.out hb
              rw [evF_0]
              clear hb hq
              go_wp2_with fail
              go_roundw
              case rel => exact ⟨k + 1, by omega, by omega, by go_num, HW.out⟩
              case measure => simp [intOf]; omega
            · have cgy_0 := cell_of_block (i := 0) Hgy.out (v := .int .i64 Vc) rfl
              have cgy_1 := cell_of_block (i := 1) Hgy.out (v := .slice none 0 0) rfl
              have cgy_2 := cell_of_block (i := 2) Hgy.out (v := .int .i64 1) rfl
              go_wp2_with fail
              refine (c_BddEvalI (B := w20.heap.size) Vc 1 n w20 (Nat.le_refl _) (nil_bns _ _)).mono ?_
              rintro e w21 ⟨hb, hq⟩
              replace Hgc := Go.Lib.hid ((hq.block _ lgc).trans Hgc.out)
              replace lgc := Nat.lt_of_lt_of_le lgc hq.size
              replace Hga := Go.Lib.hid ((hq.block _ lga).trans Hga.out)
              replace lga := Nat.lt_of_lt_of_le lga hq.size
              replace Hgb := Go.Lib.hid ((hq.block _ lgb).trans Hgb.out)
              replace lgb := Nat.lt_of_lt_of_le lgb hq.size
              replace Hgx := Go.Lib.hid ((hq.block _ lgx).trans Hgx.out)
              replace lgx := Nat.lt_of_lt_of_le lgx hq.size
              replace Hgv := Go.Lib.hid ((hq.block _ lgv).trans Hgv.out)
              replace lgv := Nat.lt_of_lt_of_le lgv hq.size
              replace Hgy := Go.Lib.hid ((hq.block _ lgy).trans Hgy.out)
              replace lgy := Nat.lt_of_lt_of_le lgy hq.size
              replace Hgn := Go.Lib.hid ((hq.block _ lgn).trans Hgn.out)
              replace lgn := Nat.lt_of_lt_of_le lgn hq.size
              replace GL := Go.Lib.hid (GL.out.below hq)
              replace Nc := Go.Lib.hid ((Nc.out.below hq).mono hq.size)
              replace Na := Go.Lib.hid ((Na.out.below hq).mono hq.size)
              replace Nb := Go.Lib.hid ((Nb.out.below hq).mono hq.size)
              replace Nx := Go.Lib.hid ((Nx.out.below hq).mono hq.size)
              replace Nv := Go.Lib.hid ((Nv.out.below hq).mono hq.size)
              replace HW := Go.Lib.hid (HW.out.trans (hq.mono HW.out.size))
              replace HB := Go.Lib.hid (HB.out.trans (hq.mono HB.out.size))
              clear cgy_0 cgy_1 cgy_2
              obtain rfl := evl_bool (no_false hv).1 HN0.out hb
              rw [evF_1]
              clear hb hq
              have cgn_0 := cell_of_block (i := 0) Hgn.out (v := .int .i64 Vc) rfl
              have cgn_1 := cell_of_block (i := 1) Hgn.out (v := .slice none 0 0) rfl
              have cgn_2 := cell_of_block (i := 2) Hgn.out (v := .int .i64 0) rfl
              go_wp2_with fail
              refine (c_BddEvalI (B := w21.heap.size) Vc 0 n w21 (Nat.le_refl _) (nil_bns _ _)).mono ?_
              rintro e w22 ⟨hb, hq⟩
              replace Hgc := Go.Lib.hid ((hq.block _ lgc).trans Hgc.out)
              replace lgc := Nat.lt_of_lt_of_le lgc hq.size
              replace Hga := Go.Lib.hid ((hq.block _ lga).trans Hga.out)
              replace lga := Nat.lt_of_lt_of_le lga hq.size
              replace Hgb := Go.Lib.hid ((hq.block _ lgb).trans Hgb.out)
              replace lgb := Nat.lt_of_lt_of_le lgb hq.size
              replace Hgx := Go.Lib.hid ((hq.block _ lgx).trans Hgx.out)
              replace lgx := Nat.lt_of_lt_of_le lgx hq.size
              replace Hgv := Go.Lib.hid ((hq.block _ lgv).trans Hgv.out)
              replace lgv := Nat.lt_of_lt_of_le lgv hq.size
              replace Hgy := Go.Lib.hid ((hq.block _ lgy).trans Hgy.out)
              replace lgy := Nat.lt_of_lt_of_le lgy hq.size
              replace Hgn := Go.Lib.hid ((hq.block _ lgn).trans Hgn.out)
              replace lgn := Nat.lt_of_lt_of_le lgn hq.size
              replace GL := Go.Lib.hid (GL.out.below hq)
              replace Nc := Go.Lib.hid ((Nc.out.below hq).mono hq.size)
              replace Na := Go.Lib.hid ((Na.out.below hq).mono hq.size)
              replace Nb := Go.Lib.hid ((Nb.out.below hq).mono hq.size)
              replace Nx := Go.Lib.hid ((Nx.out.below hq).mono hq.size)
              replace Nv := Go.Lib.hid ((Nv.out.below hq).mono hq.size)
              replace HW := Go.Lib.hid (HW.out.trans (hq.mono HW.out.size))
              replace HB := Go.Lib.hid (HB.out.trans (hq.mono HB.out.size))
              clear cgn_0 cgn_1 cgn_2
              obtain rfl := evl_bool (no_false hv).2 HN0.out hb
              rw [evF_0]
              clear hb hq
              go_wp2_with fail
              go_roundw
              case rel => exact ⟨k + 1, by omega, by omega, by go_num, HW.out⟩
              case measure => simp [intOf]; omega
        · have hki : ¬ (k : Int) < 10 := by omega
          go_wp2_with fail
          go_ret
          exact ⟨rfl, HB.out⟩
    · have hiv2 : decide (i < Vc) = false := decide_eq_false hiv
      obtain ⟨rfl, rfl⟩ : Vv = 0 ∧ bv = false := by rcases CV.out with ⟨h, -⟩ | ⟨-, h1, -, -, h2⟩; exact absurd h.2.2 hiv; exact ⟨h1, h2⟩
      clear CV
      have cgc_0 := cell_of_block (i := 0) Hgc.out (v := .int .i64 Vc) rfl
      have cgc_1 := cell_of_block (i := 1) Hgc.out (v := .slice ac lc cc) rfl
      have cgc_2 := cell_of_block (i := 2) Hgc.out (v := .int .i64 Rc) rfl
      go_upto_region 14 with fail
      clear cgc_0 cgc_1 cgc_2
      have cgc_0 := cell_of_block (i := 0) Hgc.out (v := .int .i64 Vc) rfl
      have cgc_1 := cell_of_block (i := 1) Hgc.out (v := .slice ac lc cc) rfl
      have cgc_2 := cell_of_block (i := 2) Hgc.out (v := .int .i64 Rc) rfl
      go_wp2_with fail
      refine (c_BddConstI Vc true Vc 1 true (by unfold cR; rw [if_pos (show varsB Vc = true from decide_eq_true hv)]; rfl) w10).mono ?_
      rintro e w11 ⟨rfl, hq⟩
      replace Hgc := Go.Lib.hid ((hq.block _ lgc).trans Hgc.out)
      replace lgc := Nat.lt_of_lt_of_le lgc hq.size
      replace Hga := Go.Lib.hid ((hq.block _ lga).trans Hga.out)
      replace lga := Nat.lt_of_lt_of_le lga hq.size
      replace Hgb := Go.Lib.hid ((hq.block _ lgb).trans Hgb.out)
      replace lgb := Nat.lt_of_lt_of_le lgb hq.size
      replace Hgx := Go.Lib.hid ((hq.block _ lgx).trans Hgx.out)
      replace lgx := Nat.lt_of_lt_of_le lgx hq.size
      replace Hgv := Go.Lib.hid ((hq.block _ lgv).trans Hgv.out)
      replace lgv := Nat.lt_of_lt_of_le lgv hq.size
      replace GL := Go.Lib.hid (GL.out.below hq)
      replace Nc := Go.Lib.hid ((Nc.out.below hq).mono hq.size)
      replace Na := Go.Lib.hid ((Na.out.below hq).mono hq.size)
      replace Nb := Go.Lib.hid ((Nb.out.below hq).mono hq.size)
      replace Nx := Go.Lib.hid ((Nx.out.below hq).mono hq.size)
      replace Nv := Go.Lib.hid ((Nv.out.below hq).mono hq.size)
      replace HB := Go.Lib.hid (HB.out.trans (hq.mono HB.out.size))
      clear cgc_0 cgc_1 cgc_2
      clear hq
      go_upto_region 15 with fail
      refine code_gen (R := fun wb => wb.heap[w11.heap.size]? = some (.cells #[.int .i64 Vc, .slice none 0 0, .int .i64 1] 25 (0, 0)) ∧ Below w11.heap.size w11 wb) ⟨by first | exact (MapKept.heap_alloc _ _).1 | exact heap_alloc_new _ _, by go_grown⟩ ?_
      rintro w12 ⟨k, hq⟩
      have lgy : w11.heap.size < w12.heap.size := (Array.getElem?_eq_some_iff.1 k).1
      replace Hgc := Go.Lib.hid ((hq.block _ lgc).trans Hgc.out)
      replace lgc := Nat.lt_of_lt_of_le lgc hq.size
      replace Hga := Go.Lib.hid ((hq.block _ lga).trans Hga.out)
      replace lga := Nat.lt_of_lt_of_le lga hq.size
      replace Hgb := Go.Lib.hid ((hq.block _ lgb).trans Hgb.out)
      replace lgb := Nat.lt_of_lt_of_le lgb hq.size
      replace Hgx := Go.Lib.hid ((hq.block _ lgx).trans Hgx.out)
      replace lgx := Nat.lt_of_lt_of_le lgx hq.size
      replace Hgv := Go.Lib.hid ((hq.block _ lgv).trans Hgv.out)
      replace lgv := Nat.lt_of_lt_of_le lgv hq.size
      replace GL := Go.Lib.hid (GL.out.below hq)
      replace Nc := Go.Lib.hid ((Nc.out.below hq).mono hq.size)
      replace Na := Go.Lib.hid ((Na.out.below hq).mono hq.size)
      replace Nb := Go.Lib.hid ((Nb.out.below hq).mono hq.size)
      replace Nx := Go.Lib.hid ((Nx.out.below hq).mono hq.size)
      replace Nv := Go.Lib.hid ((Nv.out.below hq).mono hq.size)
      replace HB := Go.Lib.hid (HB.out.trans (hq.mono HB.out.size))
      obtain ⟨gy, hgy⟩ : ∃ g, w11.heap.size = g := ⟨_, rfl⟩
      rw [hgy] at k lgy ⊢
      have Hgy := Go.Lib.hid k
      clear k hq hgy
      have cgc_0 := cell_of_block (i := 0) Hgc.out (v := .int .i64 Vc) rfl
      have cgc_1 := cell_of_block (i := 1) Hgc.out (v := .slice ac lc cc) rfl
      have cgc_2 := cell_of_block (i := 2) Hgc.out (v := .int .i64 Rc) rfl
      go_wp2_with fail
      refine (c_BddConstI Vc false Vc 0 true (by unfold cR; rw [if_pos (show varsB Vc = true from decide_eq_true hv)]; rfl) w12).mono ?_
      rintro e w13 ⟨rfl, hq⟩
      replace Hgc := Go.Lib.hid ((hq.block _ lgc).trans Hgc.out)
      replace lgc := Nat.lt_of_lt_of_le lgc hq.size
      replace Hga := Go.Lib.hid ((hq.block _ lga).trans Hga.out)
      replace lga := Nat.lt_of_lt_of_le lga hq.size
      replace Hgb := Go.Lib.hid ((hq.block _ lgb).trans Hgb.out)
      replace lgb := Nat.lt_of_lt_of_le lgb hq.size
      replace Hgx := Go.Lib.hid ((hq.block _ lgx).trans Hgx.out)
      replace lgx := Nat.lt_of_lt_of_le lgx hq.size
      replace Hgv := Go.Lib.hid ((hq.block _ lgv).trans Hgv.out)
      replace lgv := Nat.lt_of_lt_of_le lgv hq.size
      replace Hgy := Go.Lib.hid ((hq.block _ lgy).trans Hgy.out)
      replace lgy := Nat.lt_of_lt_of_le lgy hq.size
      replace GL := Go.Lib.hid (GL.out.below hq)
      replace Nc := Go.Lib.hid ((Nc.out.below hq).mono hq.size)
      replace Na := Go.Lib.hid ((Na.out.below hq).mono hq.size)
      replace Nb := Go.Lib.hid ((Nb.out.below hq).mono hq.size)
      replace Nx := Go.Lib.hid ((Nx.out.below hq).mono hq.size)
      replace Nv := Go.Lib.hid ((Nv.out.below hq).mono hq.size)
      replace HB := Go.Lib.hid (HB.out.trans (hq.mono HB.out.size))
      clear cgc_0 cgc_1 cgc_2
      clear hq
      go_upto_region 16 with fail
      refine code_gen (R := fun wb => wb.heap[w13.heap.size]? = some (.cells #[.int .i64 Vc, .slice none 0 0, .int .i64 0] 25 (0, 0)) ∧ Below w13.heap.size w13 wb) ⟨by first | exact (MapKept.heap_alloc _ _).1 | exact heap_alloc_new _ _, by go_grown⟩ ?_
      rintro w14 ⟨k, hq⟩
      have lgn : w13.heap.size < w14.heap.size := (Array.getElem?_eq_some_iff.1 k).1
      replace Hgc := Go.Lib.hid ((hq.block _ lgc).trans Hgc.out)
      replace lgc := Nat.lt_of_lt_of_le lgc hq.size
      replace Hga := Go.Lib.hid ((hq.block _ lga).trans Hga.out)
      replace lga := Nat.lt_of_lt_of_le lga hq.size
      replace Hgb := Go.Lib.hid ((hq.block _ lgb).trans Hgb.out)
      replace lgb := Nat.lt_of_lt_of_le lgb hq.size
      replace Hgx := Go.Lib.hid ((hq.block _ lgx).trans Hgx.out)
      replace lgx := Nat.lt_of_lt_of_le lgx hq.size
      replace Hgv := Go.Lib.hid ((hq.block _ lgv).trans Hgv.out)
      replace lgv := Nat.lt_of_lt_of_le lgv hq.size
      replace Hgy := Go.Lib.hid ((hq.block _ lgy).trans Hgy.out)
      replace lgy := Nat.lt_of_lt_of_le lgy hq.size
      replace GL := Go.Lib.hid (GL.out.below hq)
      replace Nc := Go.Lib.hid ((Nc.out.below hq).mono hq.size)
      replace Na := Go.Lib.hid ((Na.out.below hq).mono hq.size)
      replace Nb := Go.Lib.hid ((Nb.out.below hq).mono hq.size)
      replace Nx := Go.Lib.hid ((Nx.out.below hq).mono hq.size)
      replace Nv := Go.Lib.hid ((Nv.out.below hq).mono hq.size)
      replace HB := Go.Lib.hid (HB.out.trans (hq.mono HB.out.size))
      obtain ⟨gn, hgn⟩ : ∃ g, w13.heap.size = g := ⟨_, rfl⟩
      rw [hgn] at k lgn ⊢
      have Hgn := Go.Lib.hid k
      clear k hq hgn
      go_wp2_with fail
      clear hiv2
      go_loopw [19, 20, 21] (fun q _ _ wr => ∃ k : Nat, 1 ≤ k ∧ k ≤ 10 ∧ q = .int .i64 k ∧ Below w14.heap.size w14 wr) (fun q _ _ _ => 10 - (intOf q).toNat)
      case atStart => exact ⟨1, by omega, by omega, rfl, Below.refl _ _⟩
      case round =>
        obtain ⟨k, hk1, hk, rfl, hq⟩ := hrel
        have HW := Go.Lib.hid hq
        replace Hgc := Go.Lib.hid ((hq.block _ lgc).trans Hgc.out)
        replace lgc := Nat.lt_of_lt_of_le lgc hq.size
        replace Hga := Go.Lib.hid ((hq.block _ lga).trans Hga.out)
        replace lga := Nat.lt_of_lt_of_le lga hq.size
        replace Hgb := Go.Lib.hid ((hq.block _ lgb).trans Hgb.out)
        replace lgb := Nat.lt_of_lt_of_le lgb hq.size
        replace Hgx := Go.Lib.hid ((hq.block _ lgx).trans Hgx.out)
        replace lgx := Nat.lt_of_lt_of_le lgx hq.size
        replace Hgv := Go.Lib.hid ((hq.block _ lgv).trans Hgv.out)
        replace lgv := Nat.lt_of_lt_of_le lgv hq.size
        replace Hgy := Go.Lib.hid ((hq.block _ lgy).trans Hgy.out)
        replace lgy := Nat.lt_of_lt_of_le lgy hq.size
        replace Hgn := Go.Lib.hid ((hq.block _ lgn).trans Hgn.out)
        replace lgn := Nat.lt_of_lt_of_le lgn hq.size
        replace GL := Go.Lib.hid (GL.out.below hq)
        replace Nc := Go.Lib.hid ((Nc.out.below hq).mono hq.size)
        replace Na := Go.Lib.hid ((Na.out.below hq).mono hq.size)
        replace Nb := Go.Lib.hid ((Nb.out.below hq).mono hq.size)
        replace Nx := Go.Lib.hid ((Nx.out.below hq).mono hq.size)
        replace Nv := Go.Lib.hid ((Nv.out.below hq).mono hq.size)
        replace HB := Go.Lib.hid (HB.out.trans (hq.mono HB.out.size))
        clear hq
        by_cases hkl : k < 10
        · have hki : (k : Int) < 10 := by omega
          have hpw := p2_pos Vc.toNat
          have hpz : ¬ (2 : Int) ^ Vc.toNat = 0 := by omega
          have hw2 := wrap_p2 (n := Vc) (by omega)
          have hp13 := p2_13 hv.1 hv.2
          have hw3 : wrap64 (2 ^ min (IntKind.u64.wrap Vc).toNat 64) = 2 ^ Vc.toNat := by rw [IntWalk.u64_in _ (by omega), Nat.min_eq_left (by omega)]; exact hw2
          have hu3 : min (IntKind.u64.wrap Vc).toNat 64 = Vc.toNat := by rw [IntWalk.u64_in _ (by omega)]; omega
          have hu4 : IntKind.u64.wrap Vc = Vc := IntWalk.u64_in _ (by omega)
          have hw8 : IntKind.i64.wrap (2 ^ Vc.toNat) = 2 ^ Vc.toNat := pow_i64 hv.1 hv.2
          have hw9 : IntKind.i64.wrap (2 ^ (IntKind.u64.wrap Vc).toNat) = 2 ^ Vc.toNat := by rw [hu4]; exact hw8
          have HBX := Go.Lib.hid (show ∀ w', Below wr.heap.size wr w' → (fun w' => w'.cell? ⟨gc, 0, none⟩ = some (.int .i64 Vc) ∧ w'.cell? ⟨gc, 1, none⟩ = some (.slice ac lc cc) ∧ w'.cell? ⟨gc, 2, none⟩ = some (.int .i64 Rc)) w' from fun w' hb => ⟨keepc hb lgc (cell_of_block (i := 0) Hgc.out (v := .int .i64 Vc) rfl), keepc hb lgc (cell_of_block (i := 1) Hgc.out (v := .slice ac lc cc) rfl), keepc hb lgc (cell_of_block (i := 2) Hgc.out (v := .int .i64 Rc) rfl)⟩)
          have HQ0 := Go.Lib.hid (show Below wr.heap.size wr wr.drew from (Below.refl _ wr).drew)
          have hS0 := HBX.out _ HQ0.out
          go_upto_region 19 with fail
          refine wp_region_held_drew (S := (fun w' => w'.cell? ⟨gc, 0, none⟩ = some (.int .i64 Vc) ∧ w'.cell? ⟨gc, 1, none⟩ = some (.slice ac lc cc) ∧ w'.cell? ⟨gc, 2, none⟩ = some (.int .i64 Rc))) (by kernel_rfl) ?_ (fun hHeld => ?_)
          · first | exact hS0 | exact HBX.out _ HQ1.out | exact HBX.out _ HQ0.out
          refine tL 0 (some 96) ?_
          refine tL 1 (some 97) ?_
          refine tL 4 (some 100) ?_
          refine tL 6 (some 102) ?_
          refine tL 7 (some 103) ?_
          refine tL 8 (some 104) ?_
          refine tL 9 (some 105) ?_
          refine wpAnyH_ready (rs := [2]) (by kernel_rfl) (by simp) ?_
          refine AllReadyH.cons (o := _) rfl (fun K hK => ?_) AllReadyH.nil
          go_simp
          refine (c_ldByte (B := W.heap.size) (k : Int) _ (HM.out.below (HB.out.trans (HQ0.out.mono HB.out.size))) (by omega) (by omega)).mono ?_
          rintro e v1 ⟨v, rfl, hv0, hv1, hq⟩
          have HQ1 := Go.Lib.hid (HQ0.out.trans (hq.mono HQ0.out.size))
          clear hq
          have hw4 : wrap64 (v * 29) = v * 29 := IntWalk.wrap64_in _ (by omega)
          have hw5 : wrap64 (v * 29 + (k : Int)) = v * 29 + (k : Int) := IntWalk.wrap64_in _ (by omega)
          have hw6 : IntKind.i64.wrap (v * 29) = v * 29 := IntWalk.i64_in _ (by omega)
          have hw7 : IntKind.i64.wrap (v * 29 + (k : Int)) = v * 29 + (k : Int) := IntWalk.i64_in _ (by omega)
          have htm : (v * 29 + (k : Int)).tmod (2 ^ Vc.toNat) = (v * 29 + (k : Int)) % 2 ^ Vc.toNat := Int.tmod_eq_emod_of_nonneg (by omega)
          (try go_wp2_with fail)
          (try clear hHeld)
          refine hK.out _ _ ?_ (fun hHeld => ?_)
          · first | exact hS0 | exact HBX.out _ HQ1.out | exact HBX.out _ HQ0.out
          clear hK K
          (try simp only [Act.put, List.setIfInBounds_toArray, List.set_cons_zero, List.set_cons_succ])
          refine tL 3 (some 99) ?_
          refine tL 5 (some 101) ?_
          refine tL 10 (some 106) ?_
          refine tL 11 (some 20) ?_
          refine wpAnyH_done (by kernel_rfl) ?_ _
          clear hHeld hS0 HBX
          have hq := HQ1.out
          replace Hgc := Go.Lib.hid ((hq.block _ lgc).trans Hgc.out)
          replace lgc := Nat.lt_of_lt_of_le lgc hq.size
          replace Hga := Go.Lib.hid ((hq.block _ lga).trans Hga.out)
          replace lga := Nat.lt_of_lt_of_le lga hq.size
          replace Hgb := Go.Lib.hid ((hq.block _ lgb).trans Hgb.out)
          replace lgb := Nat.lt_of_lt_of_le lgb hq.size
          replace Hgx := Go.Lib.hid ((hq.block _ lgx).trans Hgx.out)
          replace lgx := Nat.lt_of_lt_of_le lgx hq.size
          replace Hgv := Go.Lib.hid ((hq.block _ lgv).trans Hgv.out)
          replace lgv := Nat.lt_of_lt_of_le lgv hq.size
          replace Hgy := Go.Lib.hid ((hq.block _ lgy).trans Hgy.out)
          replace lgy := Nat.lt_of_lt_of_le lgy hq.size
          replace Hgn := Go.Lib.hid ((hq.block _ lgn).trans Hgn.out)
          replace lgn := Nat.lt_of_lt_of_le lgn hq.size
          replace GL := Go.Lib.hid (GL.out.below hq)
          replace Nc := Go.Lib.hid ((Nc.out.below hq).mono hq.size)
          replace Na := Go.Lib.hid ((Na.out.below hq).mono hq.size)
          replace Nb := Go.Lib.hid ((Nb.out.below hq).mono hq.size)
          replace Nx := Go.Lib.hid ((Nx.out.below hq).mono hq.size)
          replace Nv := Go.Lib.hid ((Nv.out.below hq).mono hq.size)
          replace HW := Go.Lib.hid (HW.out.trans (hq.mono HW.out.size))
          replace HB := Go.Lib.hid (HB.out.trans (hq.mono HB.out.size))
          clear hq HQ0 HQ1
          go_upto_region 20 with fail
          obtain ⟨n, hn, hn0⟩ : ∃ n, (v * 29 + (k : Int)) % 2 ^ Vc.toNat = n ∧ (0 ≤ n ∧ n < 2 ^ Vc.toNat) := ⟨_, rfl, Int.emod_nonneg _ hpz, Int.emod_lt_of_pos _ hpw⟩
          rw [hn]
          clear hn htm hv0 hv1 hw4 hw5 hw6 hw7 hw2 hw3 hu3 hu4 hw8 hw9
          have HN0 := Go.Lib.hid hn0
          have hn1 := hn0.1
          clear hn0 hpw hpz hp13
          have cgb_0 := cell_of_block (i := 0) Hgb.out (v := .int .i64 Vc) rfl
          have cgb_1 := cell_of_block (i := 1) Hgb.out (v := .slice ab lb cb) rfl
          have cgb_2 := cell_of_block (i := 2) Hgb.out (v := .int .i64 Rb) rfl
          go_wp2_with fail
          refine (c_BddEvalI (B := v1.heap.size) Vc Rb n v1 (Nat.le_refl _) Nb.out).mono ?_
          rintro e w17 ⟨hb, hq⟩
          replace Hgc := Go.Lib.hid ((hq.block _ lgc).trans Hgc.out)
          replace lgc := Nat.lt_of_lt_of_le lgc hq.size
          replace Hga := Go.Lib.hid ((hq.block _ lga).trans Hga.out)
          replace lga := Nat.lt_of_lt_of_le lga hq.size
          replace Hgb := Go.Lib.hid ((hq.block _ lgb).trans Hgb.out)
          replace lgb := Nat.lt_of_lt_of_le lgb hq.size
          replace Hgx := Go.Lib.hid ((hq.block _ lgx).trans Hgx.out)
          replace lgx := Nat.lt_of_lt_of_le lgx hq.size
          replace Hgv := Go.Lib.hid ((hq.block _ lgv).trans Hgv.out)
          replace lgv := Nat.lt_of_lt_of_le lgv hq.size
          replace Hgy := Go.Lib.hid ((hq.block _ lgy).trans Hgy.out)
          replace lgy := Nat.lt_of_lt_of_le lgy hq.size
          replace Hgn := Go.Lib.hid ((hq.block _ lgn).trans Hgn.out)
          replace lgn := Nat.lt_of_lt_of_le lgn hq.size
          replace GL := Go.Lib.hid (GL.out.below hq)
          replace Nc := Go.Lib.hid ((Nc.out.below hq).mono hq.size)
          replace Na := Go.Lib.hid ((Na.out.below hq).mono hq.size)
          replace Nb := Go.Lib.hid ((Nb.out.below hq).mono hq.size)
          replace Nx := Go.Lib.hid ((Nx.out.below hq).mono hq.size)
          replace Nv := Go.Lib.hid ((Nv.out.below hq).mono hq.size)
          replace HW := Go.Lib.hid (HW.out.trans (hq.mono HW.out.size))
          replace HB := Go.Lib.hid (HB.out.trans (hq.mono HB.out.size))
          clear cgb_0 cgb_1 cgb_2
          obtain rfl := evl_bool Ob.out HN0.out hb
          clear hb hq
          have cgc_0 := cell_of_block (i := 0) Hgc.out (v := .int .i64 Vc) rfl
          have cgc_1 := cell_of_block (i := 1) Hgc.out (v := .slice ac lc cc) rfl
          have cgc_2 := cell_of_block (i := 2) Hgc.out (v := .int .i64 Rc) rfl
          go_wp2_with fail
          refine (c_BddEvalI (B := w17.heap.size) Vc Rc n w17 (Nat.le_refl _) Nc.out).mono ?_
          rintro e w18 ⟨hb, hq⟩
          replace Hgc := Go.Lib.hid ((hq.block _ lgc).trans Hgc.out)
          replace lgc := Nat.lt_of_lt_of_le lgc hq.size
          replace Hga := Go.Lib.hid ((hq.block _ lga).trans Hga.out)
          replace lga := Nat.lt_of_lt_of_le lga hq.size
          replace Hgb := Go.Lib.hid ((hq.block _ lgb).trans Hgb.out)
          replace lgb := Nat.lt_of_lt_of_le lgb hq.size
          replace Hgx := Go.Lib.hid ((hq.block _ lgx).trans Hgx.out)
          replace lgx := Nat.lt_of_lt_of_le lgx hq.size
          replace Hgv := Go.Lib.hid ((hq.block _ lgv).trans Hgv.out)
          replace lgv := Nat.lt_of_lt_of_le lgv hq.size
          replace Hgy := Go.Lib.hid ((hq.block _ lgy).trans Hgy.out)
          replace lgy := Nat.lt_of_lt_of_le lgy hq.size
          replace Hgn := Go.Lib.hid ((hq.block _ lgn).trans Hgn.out)
          replace lgn := Nat.lt_of_lt_of_le lgn hq.size
          replace GL := Go.Lib.hid (GL.out.below hq)
          replace Nc := Go.Lib.hid ((Nc.out.below hq).mono hq.size)
          replace Na := Go.Lib.hid ((Na.out.below hq).mono hq.size)
          replace Nb := Go.Lib.hid ((Nb.out.below hq).mono hq.size)
          replace Nx := Go.Lib.hid ((Nx.out.below hq).mono hq.size)
          replace Nv := Go.Lib.hid ((Nv.out.below hq).mono hq.size)
          replace HW := Go.Lib.hid (HW.out.trans (hq.mono HW.out.size))
          replace HB := Go.Lib.hid (HB.out.trans (hq.mono HB.out.size))
          clear cgc_0 cgc_1 cgc_2
          obtain rfl := evl_bool Oc.out HN0.out hb
          clear hb hq
          cases hcv : evF mc Rc n with
          | true =>
            have hexn := Ex.out n HN0.out.1 HN0.out.2
            rw [hcv] at hexn
            simp only [if_true] at hexn
            have cga_0 := cell_of_block (i := 0) Hga.out (v := .int .i64 Vc) rfl
            have cga_1 := cell_of_block (i := 1) Hga.out (v := .slice aa la ca) rfl
            have cga_2 := cell_of_block (i := 2) Hga.out (v := .int .i64 Ra) rfl
            go_wp2_with fail
            refine (c_BddEvalI (B := w18.heap.size) Vc Ra n w18 (Nat.le_refl _) Na.out).mono ?_
            rintro e w19 ⟨hb, hq⟩
            replace Hgc := Go.Lib.hid ((hq.block _ lgc).trans Hgc.out)
            replace lgc := Nat.lt_of_lt_of_le lgc hq.size
            replace Hga := Go.Lib.hid ((hq.block _ lga).trans Hga.out)
            replace lga := Nat.lt_of_lt_of_le lga hq.size
            replace Hgb := Go.Lib.hid ((hq.block _ lgb).trans Hgb.out)
            replace lgb := Nat.lt_of_lt_of_le lgb hq.size
            replace Hgx := Go.Lib.hid ((hq.block _ lgx).trans Hgx.out)
            replace lgx := Nat.lt_of_lt_of_le lgx hq.size
            replace Hgv := Go.Lib.hid ((hq.block _ lgv).trans Hgv.out)
            replace lgv := Nat.lt_of_lt_of_le lgv hq.size
            replace Hgy := Go.Lib.hid ((hq.block _ lgy).trans Hgy.out)
            replace lgy := Nat.lt_of_lt_of_le lgy hq.size
            replace Hgn := Go.Lib.hid ((hq.block _ lgn).trans Hgn.out)
            replace lgn := Nat.lt_of_lt_of_le lgn hq.size
            replace GL := Go.Lib.hid (GL.out.below hq)
            replace Nc := Go.Lib.hid ((Nc.out.below hq).mono hq.size)
            replace Na := Go.Lib.hid ((Na.out.below hq).mono hq.size)
            replace Nb := Go.Lib.hid ((Nb.out.below hq).mono hq.size)
            replace Nx := Go.Lib.hid ((Nx.out.below hq).mono hq.size)
            replace Nv := Go.Lib.hid ((Nv.out.below hq).mono hq.size)
            replace HW := Go.Lib.hid (HW.out.trans (hq.mono HW.out.size))
            replace HB := Go.Lib.hid (HB.out.trans (hq.mono HB.out.size))
            clear cga_0 cga_1 cga_2
            obtain rfl := evl_bool Oa.out HN0.out hb
            clear hb hq
            have cgx_0 := cell_of_block (i := 0) Hgx.out (v := .int .i64 Vc) rfl
            have cgx_1 := cell_of_block (i := 1) Hgx.out (v := .slice ax mx.length kx) rfl
            have cgx_2 := cell_of_block (i := 2) Hgx.out (v := .int .i64 Rx) rfl
            go_wp2_with fail
            refine (c_BddEvalI (B := w19.heap.size) Vc Rx n w19 (Nat.le_refl _) Nx.out).mono ?_
            rintro e w20 ⟨hb, hq⟩
            replace Hgc := Go.Lib.hid ((hq.block _ lgc).trans Hgc.out)
            replace lgc := Nat.lt_of_lt_of_le lgc hq.size
            replace Hga := Go.Lib.hid ((hq.block _ lga).trans Hga.out)
            replace lga := Nat.lt_of_lt_of_le lga hq.size
            replace Hgb := Go.Lib.hid ((hq.block _ lgb).trans Hgb.out)
            replace lgb := Nat.lt_of_lt_of_le lgb hq.size
            replace Hgx := Go.Lib.hid ((hq.block _ lgx).trans Hgx.out)
            replace lgx := Nat.lt_of_lt_of_le lgx hq.size
            replace Hgv := Go.Lib.hid ((hq.block _ lgv).trans Hgv.out)
            replace lgv := Nat.lt_of_lt_of_le lgv hq.size
            replace Hgy := Go.Lib.hid ((hq.block _ lgy).trans Hgy.out)
            replace lgy := Nat.lt_of_lt_of_le lgy hq.size
            replace Hgn := Go.Lib.hid ((hq.block _ lgn).trans Hgn.out)
            replace lgn := Nat.lt_of_lt_of_le lgn hq.size
            replace GL := Go.Lib.hid (GL.out.below hq)
            replace Nc := Go.Lib.hid ((Nc.out.below hq).mono hq.size)
            replace Na := Go.Lib.hid ((Na.out.below hq).mono hq.size)
            replace Nb := Go.Lib.hid ((Nb.out.below hq).mono hq.size)
            replace Nx := Go.Lib.hid ((Nx.out.below hq).mono hq.size)
            replace Nv := Go.Lib.hid ((Nv.out.below hq).mono hq.size)
            replace HW := Go.Lib.hid (HW.out.trans (hq.mono HW.out.size))
            replace HB := Go.Lib.hid (HB.out.trans (hq.mono HB.out.size))
            clear cgx_0 cgx_1 cgx_2
            obtain rfl := evl_bool Ox.out HN0.out hb
            clear hb hq
            rw [hexn]
            obtain ⟨bw, hbw⟩ : ∃ b, evF ma Ra n = b := ⟨_, rfl⟩
            rw [hbw]
            clear hexn hbw
            have cgy_0 := cell_of_block (i := 0) Hgy.out (v := .int .i64 Vc) rfl
            have cgy_1 := cell_of_block (i := 1) Hgy.out (v := .slice none 0 0) rfl
            have cgy_2 := cell_of_block (i := 2) Hgy.out (v := .int .i64 1) rfl
            go_wp2_with fail
            refine (c_BddEvalI (B := w20.heap.size) Vc 1 n w20 (Nat.le_refl _) (nil_bns _ _)).mono ?_
            rintro e w21 ⟨hb, hq⟩
            replace Hgc := Go.Lib.hid ((hq.block _ lgc).trans Hgc.out)
            replace lgc := Nat.lt_of_lt_of_le lgc hq.size
            replace Hga := Go.Lib.hid ((hq.block _ lga).trans Hga.out)
            replace lga := Nat.lt_of_lt_of_le lga hq.size
            replace Hgb := Go.Lib.hid ((hq.block _ lgb).trans Hgb.out)
            replace lgb := Nat.lt_of_lt_of_le lgb hq.size
            replace Hgx := Go.Lib.hid ((hq.block _ lgx).trans Hgx.out)
            replace lgx := Nat.lt_of_lt_of_le lgx hq.size
            replace Hgv := Go.Lib.hid ((hq.block _ lgv).trans Hgv.out)
            replace lgv := Nat.lt_of_lt_of_le lgv hq.size
            replace Hgy := Go.Lib.hid ((hq.block _ lgy).trans Hgy.out)
            replace lgy := Nat.lt_of_lt_of_le lgy hq.size
            replace Hgn := Go.Lib.hid ((hq.block _ lgn).trans Hgn.out)
            replace lgn := Nat.lt_of_lt_of_le lgn hq.size
            replace GL := Go.Lib.hid (GL.out.below hq)
            replace Nc := Go.Lib.hid ((Nc.out.below hq).mono hq.size)
            replace Na := Go.Lib.hid ((Na.out.below hq).mono hq.size)
            replace Nb := Go.Lib.hid ((Nb.out.below hq).mono hq.size)
            replace Nx := Go.Lib.hid ((Nx.out.below hq).mono hq.size)
            replace Nv := Go.Lib.hid ((Nv.out.below hq).mono hq.size)
            replace HW := Go.Lib.hid (HW.out.trans (hq.mono HW.out.size))
            replace HB := Go.Lib.hid (HB.out.trans (hq.mono HB.out.size))
            clear cgy_0 cgy_1 cgy_2
            obtain rfl := evl_bool (no_false hv).1 HN0.out hb
            rw [evF_1]
            clear hb hq
            have cgn_0 := cell_of_block (i := 0) Hgn.out (v := .int .i64 Vc) rfl
            have cgn_1 := cell_of_block (i := 1) Hgn.out (v := .slice none 0 0) rfl
            have cgn_2 := cell_of_block (i := 2) Hgn.out (v := .int .i64 0) rfl
            go_wp2_with fail
            refine (c_BddEvalI (B := w21.heap.size) Vc 0 n w21 (Nat.le_refl _) (nil_bns _ _)).mono ?_
            rintro e w22 ⟨hb, hq⟩
            replace Hgc := Go.Lib.hid ((hq.block _ lgc).trans Hgc.out)
            replace lgc := Nat.lt_of_lt_of_le lgc hq.size
            replace Hga := Go.Lib.hid ((hq.block _ lga).trans Hga.out)
            replace lga := Nat.lt_of_lt_of_le lga hq.size
            replace Hgb := Go.Lib.hid ((hq.block _ lgb).trans Hgb.out)
            replace lgb := Nat.lt_of_lt_of_le lgb hq.size
            replace Hgx := Go.Lib.hid ((hq.block _ lgx).trans Hgx.out)
            replace lgx := Nat.lt_of_lt_of_le lgx hq.size
            replace Hgv := Go.Lib.hid ((hq.block _ lgv).trans Hgv.out)
            replace lgv := Nat.lt_of_lt_of_le lgv hq.size
            replace Hgy := Go.Lib.hid ((hq.block _ lgy).trans Hgy.out)
            replace lgy := Nat.lt_of_lt_of_le lgy hq.size
            replace Hgn := Go.Lib.hid ((hq.block _ lgn).trans Hgn.out)
            replace lgn := Nat.lt_of_lt_of_le lgn hq.size
            replace GL := Go.Lib.hid (GL.out.below hq)
            replace Nc := Go.Lib.hid ((Nc.out.below hq).mono hq.size)
            replace Na := Go.Lib.hid ((Na.out.below hq).mono hq.size)
            replace Nb := Go.Lib.hid ((Nb.out.below hq).mono hq.size)
            replace Nx := Go.Lib.hid ((Nx.out.below hq).mono hq.size)
            replace Nv := Go.Lib.hid ((Nv.out.below hq).mono hq.size)
            replace HW := Go.Lib.hid (HW.out.trans (hq.mono HW.out.size))
            replace HB := Go.Lib.hid (HB.out.trans (hq.mono HB.out.size))
            clear cgn_0 cgn_1 cgn_2
            obtain rfl := evl_bool (no_false hv).2 HN0.out hb
            rw [evF_0]
            clear hb hq
            go_wp2_with fail
            go_roundw
            case rel => exact ⟨k + 1, by omega, by omega, by go_num, HW.out⟩
            case measure => simp [intOf]; omega
          | false =>
            have hexn := Ex.out n HN0.out.1 HN0.out.2
            rw [hcv] at hexn
            simp only [Bool.false_eq_true, if_false] at hexn
            have cgx_0 := cell_of_block (i := 0) Hgx.out (v := .int .i64 Vc) rfl
            have cgx_1 := cell_of_block (i := 1) Hgx.out (v := .slice ax mx.length kx) rfl
            have cgx_2 := cell_of_block (i := 2) Hgx.out (v := .int .i64 Rx) rfl
            go_wp2_with fail
            refine (c_BddEvalI (B := w18.heap.size) Vc Rx n w18 (Nat.le_refl _) Nx.out).mono ?_
            rintro e w19 ⟨hb, hq⟩
            replace Hgc := Go.Lib.hid ((hq.block _ lgc).trans Hgc.out)
            replace lgc := Nat.lt_of_lt_of_le lgc hq.size
            replace Hga := Go.Lib.hid ((hq.block _ lga).trans Hga.out)
            replace lga := Nat.lt_of_lt_of_le lga hq.size
            replace Hgb := Go.Lib.hid ((hq.block _ lgb).trans Hgb.out)
            replace lgb := Nat.lt_of_lt_of_le lgb hq.size
            replace Hgx := Go.Lib.hid ((hq.block _ lgx).trans Hgx.out)
            replace lgx := Nat.lt_of_lt_of_le lgx hq.size
            replace Hgv := Go.Lib.hid ((hq.block _ lgv).trans Hgv.out)
            replace lgv := Nat.lt_of_lt_of_le lgv hq.size
            replace Hgy := Go.Lib.hid ((hq.block _ lgy).trans Hgy.out)
            replace lgy := Nat.lt_of_lt_of_le lgy hq.size
            replace Hgn := Go.Lib.hid ((hq.block _ lgn).trans Hgn.out)
            replace lgn := Nat.lt_of_lt_of_le lgn hq.size
            replace GL := Go.Lib.hid (GL.out.below hq)
            replace Nc := Go.Lib.hid ((Nc.out.below hq).mono hq.size)
            replace Na := Go.Lib.hid ((Na.out.below hq).mono hq.size)
            replace Nb := Go.Lib.hid ((Nb.out.below hq).mono hq.size)
            replace Nx := Go.Lib.hid ((Nx.out.below hq).mono hq.size)
            replace Nv := Go.Lib.hid ((Nv.out.below hq).mono hq.size)
            replace HW := Go.Lib.hid (HW.out.trans (hq.mono HW.out.size))
            replace HB := Go.Lib.hid (HB.out.trans (hq.mono HB.out.size))
            clear cgx_0 cgx_1 cgx_2
            obtain rfl := evl_bool Ox.out HN0.out hb
            clear hb hq
            rw [hexn]
            obtain ⟨bw, hbw⟩ : ∃ b, evF mb Rb n = b := ⟨_, rfl⟩
            rw [hbw]
            clear hexn hbw
            have cgy_0 := cell_of_block (i := 0) Hgy.out (v := .int .i64 Vc) rfl
            have cgy_1 := cell_of_block (i := 1) Hgy.out (v := .slice none 0 0) rfl
            have cgy_2 := cell_of_block (i := 2) Hgy.out (v := .int .i64 1) rfl
            go_wp2_with fail
            refine (c_BddEvalI (B := w19.heap.size) Vc 1 n w19 (Nat.le_refl _) (nil_bns _ _)).mono ?_
            rintro e w20 ⟨hb, hq⟩
            replace Hgc := Go.Lib.hid ((hq.block _ lgc).trans Hgc.out)
            replace lgc := Nat.lt_of_lt_of_le lgc hq.size
            replace Hga := Go.Lib.hid ((hq.block _ lga).trans Hga.out)
            replace lga := Nat.lt_of_lt_of_le lga hq.size
            replace Hgb := Go.Lib.hid ((hq.block _ lgb).trans Hgb.out)
            replace lgb := Nat.lt_of_lt_of_le lgb hq.size
            replace Hgx := Go.Lib.hid ((hq.block _ lgx).trans Hgx.out)
            replace lgx := Nat.lt_of_lt_of_le lgx hq.size
            replace Hgv := Go.Lib.hid ((hq.block _ lgv).trans Hgv.out)
            replace lgv := Nat.lt_of_lt_of_le lgv hq.size
            replace Hgy := Go.Lib.hid ((hq.block _ lgy).trans Hgy.out)
            replace lgy := Nat.lt_of_lt_of_le lgy hq.size
            replace Hgn := Go.Lib.hid ((hq.block _ lgn).trans Hgn.out)
            replace lgn := Nat.lt_of_lt_of_le lgn hq.size
            replace GL := Go.Lib.hid (GL.out.below hq)
            replace Nc := Go.Lib.hid ((Nc.out.below hq).mono hq.size)
            replace Na := Go.Lib.hid ((Na.out.below hq).mono hq.size)
            replace Nb := Go.Lib.hid ((Nb.out.below hq).mono hq.size)
            replace Nx := Go.Lib.hid ((Nx.out.below hq).mono hq.size)
            replace Nv := Go.Lib.hid ((Nv.out.below hq).mono hq.size)
            replace HW := Go.Lib.hid (HW.out.trans (hq.mono HW.out.size))
            replace HB := Go.Lib.hid (HB.out.trans (hq.mono HB.out.size))
            clear cgy_0 cgy_1 cgy_2
            obtain rfl := evl_bool (no_false hv).1 HN0.out hb
            rw [evF_1]
            clear hb hq
            have cgn_0 := cell_of_block (i := 0) Hgn.out (v := .int .i64 Vc) rfl
            have cgn_1 := cell_of_block (i := 1) Hgn.out (v := .slice none 0 0) rfl
            have cgn_2 := cell_of_block (i := 2) Hgn.out (v := .int .i64 0) rfl
            go_wp2_with fail
            refine (c_BddEvalI (B := w20.heap.size) Vc 0 n w20 (Nat.le_refl _) (nil_bns _ _)).mono ?_
            rintro e w21 ⟨hb, hq⟩
            replace Hgc := Go.Lib.hid ((hq.block _ lgc).trans Hgc.out)
            replace lgc := Nat.lt_of_lt_of_le lgc hq.size
            replace Hga := Go.Lib.hid ((hq.block _ lga).trans Hga.out)
            replace lga := Nat.lt_of_lt_of_le lga hq.size
            replace Hgb := Go.Lib.hid ((hq.block _ lgb).trans Hgb.out)
            replace lgb := Nat.lt_of_lt_of_le lgb hq.size
            replace Hgx := Go.Lib.hid ((hq.block _ lgx).trans Hgx.out)
            replace lgx := Nat.lt_of_lt_of_le lgx hq.size
            replace Hgv := Go.Lib.hid ((hq.block _ lgv).trans Hgv.out)
            replace lgv := Nat.lt_of_lt_of_le lgv hq.size
            replace Hgy := Go.Lib.hid ((hq.block _ lgy).trans Hgy.out)
            replace lgy := Nat.lt_of_lt_of_le lgy hq.size
            replace Hgn := Go.Lib.hid ((hq.block _ lgn).trans Hgn.out)
            replace lgn := Nat.lt_of_lt_of_le lgn hq.size
            replace GL := Go.Lib.hid (GL.out.below hq)
            replace Nc := Go.Lib.hid ((Nc.out.below hq).mono hq.size)
            replace Na := Go.Lib.hid ((Na.out.below hq).mono hq.size)
            replace Nb := Go.Lib.hid ((Nb.out.below hq).mono hq.size)
            replace Nx := Go.Lib.hid ((Nx.out.below hq).mono hq.size)
            replace Nv := Go.Lib.hid ((Nv.out.below hq).mono hq.size)
            replace HW := Go.Lib.hid (HW.out.trans (hq.mono HW.out.size))
            replace HB := Go.Lib.hid (HB.out.trans (hq.mono HB.out.size))
            clear cgn_0 cgn_1 cgn_2
            obtain rfl := evl_bool (no_false hv).2 HN0.out hb
            rw [evF_0]
            clear hb hq
            go_wp2_with fail
            go_roundw
            case rel => exact ⟨k + 1, by omega, by omega, by go_num, HW.out⟩
            case measure => simp [intOf]; omega
        · have hki : ¬ (k : Int) < 10 := by omega
          go_wp2_with fail
          go_ret
          exact ⟨rfl, HB.out⟩
end Go.Proofs.YthdofdglbdfkkaaDoor
