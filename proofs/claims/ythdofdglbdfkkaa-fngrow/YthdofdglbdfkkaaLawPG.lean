/-
  The law FnGrow: more bits change nothing.
-/
import Derived.Test.YthdofdglbdfkkaaRows
import Derived.Test.YthdofdglbdfkkaaPaA
import Derived.Test.YthdofdglbdfkkaaG0
import Derived.Test.YthdofdglbdfkkaaRd
import Derived.Test.YthdofdglbdfkkaaBdF
import Derived.Test.YthdofdglbdfkkaaBdL
import Derived.Test.YthdofdglbdfkkaaBdV
import Derived.Test.YthdofdglbdfkkaaBdZ
import Derived.Test.YthdofdglbdfkkaaFpB
import Derived.Test.YthdofdglbdfkkaaFpL
import Derived.Test.YthdofdglbdfkkaaFpE
import Derived.Test.YthdofdglbdfkkaaFpC
import Derived.Test.YthdofdglbdfkkaaFpM
import Derived.Test.YthdofdglbdfkkaaFpD
import Derived.Test.YthdofdglbdfkkaaFpG
import Derived.Test.YthdofdglbdfkkaaFpK
import Derived.WalkKit
import Derived.ProofKit
import Derived.OpenShut
import Derived.WalkSpells
import Derived.WalkLawsBesides
import Derived.Outline
import Derived.BigQuiet
import Derived.Handy
import Derived.LoopTactic
import Derived.Deep.Light
import Derived.Deep.RegionWith
import Derived.Deep.RegionHeld3
import Derived.Deep.DeepCutAuto
import Derived.Lib.Hide
import Derived.Maps.OwnRows
import Derived.Deep.Onto
import Derived.OneCell
import Derived.StillTailTactics
import Derived.Deep.AppendLies
import Derived.Deep.RegionLaw
namespace Go.Proofs.Ythdofdglbdfkkaa
open Go.ChangeShapes Go.WideShapes Go.ChangeAt Go.RowKit Go.Maps Go.ChangeMaps
set_option linter.unusedVariables false
set_option maxRecDepth 100000

theorem evl_boolG {V R n : Int} {m : List BN} {e : Ending} (ho : OkB V m R) (hn : 0 ≤ n ∧ n < 2 ^ V.toNat) (hb : BoolIs (EvlP V R n m) e) : e = .returned (.bool (evF m R n)) := by
  obtain ⟨r, rfl, hr⟩ := hb
  have h : r = true ↔ evF m R n = true := hr.trans ⟨fun h => evF_has.2 h.2.2, fun h => ⟨ho, hn, evF_has.1 h⟩⟩
  rw [Bool.eq_iff_iff.2 h]
theorem pow_i64G {V : Int} (h0 : 0 ≤ V) (h : V ≤ 13) : IntKind.i64.wrap (2 ^ V.toNat) = 2 ^ V.toNat := by
  have h1 := p2_13 h0 h
  have h2 := p2_pos V.toNat
  generalize (2 : Int) ^ V.toNat = m at *
  exact IntWalk.i64_in _ (by omega)

set_option maxHeartbeats 32000000 in
theorem w_FnGrow {a1 : Option Addr} {len1 cap1 : Nat} (W : World) (h1 : BytesAt W.heap.size W a1 len1 cap1) :
    Calls Try.prog 3 #[.slice a1 len1 cap1] W fun e w' => e = .returned (.bool true) ∧ Below W.heap.size W w' := by
  have HC := Go.Lib.hid h1
  have hm1 : (len1 : Int) ≤ 9223372036854775807 := by have h3 := h1.1; have h4 := h1.2.1; unfold maxLen at h4; omega
  clear h1
  go_enter Try.func3, Try.ntmps3
  by_cases hl1 : 1048576 < len1
  · have hi1 : (1048576 : Int) < len1 := by omega
    go_wp2_with fail
    go_ret
    exact ⟨rfl, Below.refl _ _⟩
  have hi1 : ¬ (1048576 : Int) < len1 := by omega
  go_wp2_with fail
  refine (c_DrawBddGrow (B := W.heap.size) W HC.out (Nat.le_refl _)).mono ?_
  rintro e w1 ⟨V, xa, xl, xc, R, n, rfl, ⟨m, hnb⟩, hxl, hq⟩
  have HB := Go.Lib.hid hq
  have Nb := Go.Lib.hid hnb
  clear hnb hq
  go_upto_region 4 with fail
  refine code_gen (R := fun wb => wb.heap[w1.heap.size]? = some (.cells #[.int .i64 V, .slice xa xl xc, .int .i64 R] 25 (0, 0)) ∧ Below w1.heap.size w1 wb) ⟨by first | exact (MapKept.heap_alloc _ _).1 | exact heap_alloc_new _ _, by go_grown⟩ ?_
  rintro w2 ⟨k, hq⟩
  have lgb : w1.heap.size < w2.heap.size := (Array.getElem?_eq_some_iff.1 k).1
  replace Nb := Go.Lib.hid ((Nb.out.below hq).mono hq.size)
  replace HB := Go.Lib.hid (HB.out.trans (hq.mono HB.out.size))
  obtain ⟨gb, hgb⟩ : ∃ g, w1.heap.size = g := ⟨_, rfl⟩
  rw [hgb] at k lgb ⊢
  have Hgb := Go.Lib.hid k
  clear k hq hgb
  have cgb_0 := cell_of_block (i := 0) Hgb.out (v := .int .i64 V) rfl
  have cgb_1 := cell_of_block (i := 1) Hgb.out (v := .slice xa xl xc) rfl
  have cgb_2 := cell_of_block (i := 2) Hgb.out (v := .int .i64 R) rfl
  go_wp2_with fail
  refine (c_BddGrowI V R n w2 (Nat.le_refl _) Nb.out).mono ?_
  rintro e w3 ⟨x, Vg, Rg, b1, mg, rfl, how, hrel, hq⟩
  replace Hgb := Go.Lib.hid ((hq.block _ lgb).trans Hgb.out)
  replace lgb := Nat.lt_of_lt_of_le lgb hq.size
  replace Nb := Go.Lib.hid ((Nb.out.below hq).mono hq.size)
  replace HB := Go.Lib.hid (HB.out.trans (hq.mono HB.out.size))
  clear cgb_0 cgb_1 cgb_2
  obtain ⟨ag, kg, rfl, -⟩ := OwnN.form how
  have Ng := Go.Lib.hid (OwnN.bns how rfl)
  have CB := Go.Lib.hid hrel
  clear how hrel hq
  go_upto_region 5 with fail
  refine code_gen (R := fun wb => wb.heap[w3.heap.size]? = some (.cells #[.int .i64 Vg, .slice ag mg.length kg, .int .i64 Rg] 25 (0, 0)) ∧ Below w3.heap.size w3 wb) ⟨by first | exact (MapKept.heap_alloc _ _).1 | exact heap_alloc_new _ _, by go_grown⟩ ?_
  rintro w4 ⟨k, hq⟩
  have lgg : w3.heap.size < w4.heap.size := (Array.getElem?_eq_some_iff.1 k).1
  replace Hgb := Go.Lib.hid ((hq.block _ lgb).trans Hgb.out)
  replace lgb := Nat.lt_of_lt_of_le lgb hq.size
  replace Nb := Go.Lib.hid ((Nb.out.below hq).mono hq.size)
  replace Ng := Go.Lib.hid ((Ng.out.below hq).mono hq.size)
  replace HB := Go.Lib.hid (HB.out.trans (hq.mono HB.out.size))
  obtain ⟨gg, hgg⟩ : ∃ g, w3.heap.size = g := ⟨_, rfl⟩
  rw [hgg] at k lgg ⊢
  have Hgg := Go.Lib.hid k
  clear k hq hgg
  have cgb_0 := cell_of_block (i := 0) Hgb.out (v := .int .i64 V) rfl
  have cgb_1 := cell_of_block (i := 1) Hgb.out (v := .slice xa xl xc) rfl
  have cgb_2 := cell_of_block (i := 2) Hgb.out (v := .int .i64 R) rfl
  go_wp2_with fail
  refine (c_BddGrowS V R n w4 (Nat.le_refl _) Nb.out).mono ?_
  rintro e w5 ⟨y, V', R', b2, m', rfl, how, hrel, hq⟩
  replace Hgb := Go.Lib.hid ((hq.block _ lgb).trans Hgb.out)
  replace lgb := Nat.lt_of_lt_of_le lgb hq.size
  replace Hgg := Go.Lib.hid ((hq.block _ lgg).trans Hgg.out)
  replace lgg := Nat.lt_of_lt_of_le lgg hq.size
  replace Nb := Go.Lib.hid ((Nb.out.below hq).mono hq.size)
  replace Ng := Go.Lib.hid ((Ng.out.below hq).mono hq.size)
  replace HB := Go.Lib.hid (HB.out.trans (hq.mono HB.out.size))
  clear cgb_0 cgb_1 cgb_2
  obtain ⟨e1, e2, e3, e4⟩ := CB.out.inj hrel
  subst e1
  subst e2
  subst e3
  subst e4
  obtain ⟨aw, kw, rfl, -⟩ := OwnN.form how
  have Nw := Go.Lib.hid (OwnN.bns how rfl)
  clear how hrel hq
  go_upto_region 6 with fail
  refine code_gen (R := fun wb => wb.heap[w5.heap.size]? = some (.cells #[.int .i64 Vg, .slice aw mg.length kw, .int .i64 Rg] 25 (0, 0)) ∧ Below w5.heap.size w5 wb) ⟨by first | exact (MapKept.heap_alloc _ _).1 | exact heap_alloc_new _ _, by go_grown⟩ ?_
  rintro w6 ⟨k, hq⟩
  have lgw : w5.heap.size < w6.heap.size := (Array.getElem?_eq_some_iff.1 k).1
  replace Hgb := Go.Lib.hid ((hq.block _ lgb).trans Hgb.out)
  replace lgb := Nat.lt_of_lt_of_le lgb hq.size
  replace Hgg := Go.Lib.hid ((hq.block _ lgg).trans Hgg.out)
  replace lgg := Nat.lt_of_lt_of_le lgg hq.size
  replace Nb := Go.Lib.hid ((Nb.out.below hq).mono hq.size)
  replace Ng := Go.Lib.hid ((Ng.out.below hq).mono hq.size)
  replace Nw := Go.Lib.hid ((Nw.out.below hq).mono hq.size)
  replace HB := Go.Lib.hid (HB.out.trans (hq.mono HB.out.size))
  obtain ⟨gw, hgw⟩ : ∃ g, w5.heap.size = g := ⟨_, rfl⟩
  rw [hgw] at k lgw ⊢
  have Hgw := Go.Lib.hid k
  clear k hq hgw
  cases b1 with
  | false =>
    have cgg_0 := cell_of_block (i := 0) Hgg.out (v := .int .i64 Vg) rfl
    have cgg_1 := cell_of_block (i := 1) Hgg.out (v := .slice ag mg.length kg) rfl
    have cgg_2 := cell_of_block (i := 2) Hgg.out (v := .int .i64 Rg) rfl
    have cgw_0 := cell_of_block (i := 0) Hgw.out (v := .int .i64 Vg) rfl
    have cgw_1 := cell_of_block (i := 1) Hgw.out (v := .slice aw mg.length kw) rfl
    have cgw_2 := cell_of_block (i := 2) Hgw.out (v := .int .i64 Rg) rfl
    go_wp2_with fail
    refine (c_ldBdd (B := w6.heap.size) Vg Rg Vg Rg w6 (Nat.le_refl _) Ng.out Nw.out).mono ?_
    rintro e wz ⟨hb, hq⟩
    obtain rfl := boolIs_t ⟨rfl, rfl, rfl⟩ hb
    have HF := Go.Lib.hid (HB.out.trans (hq.mono HB.out.size))
    clear hb hq cgg_0 cgg_1 cgg_2 cgw_0 cgw_1 cgw_2
    go_wp2_with fail
    go_ret
    exact ⟨rfl, HF.out⟩
  | true =>
    obtain ⟨⟨ho, hvn, hVn⟩, e1, e2, e3⟩ : (OkB V m R ∧ varsB n = true ∧ V ≤ n) ∧ Vg = n ∧ mg = m ∧ Rg = R := by rcases CB.out with ⟨h, h1, h2, h3, -⟩ | ⟨-, -, -, -, h⟩; exact ⟨h, h1, h2, h3⟩; cases h
    subst e1
    subst e2
    subst e3
    have hv := ho.hv
    have hn13 : 0 ≤ Vg ∧ Vg ≤ 13 := of_decide_eq_true hvn
    have Ob := Go.Lib.hid ho
    have Og := Go.Lib.hid (okB_grow ho hn13 hVn)
    have HCN := Go.Lib.hid (cnt_grow ho hn13 hVn)
    clear ho hvn CB
    have cgg_0 := cell_of_block (i := 0) Hgg.out (v := .int .i64 Vg) rfl
    have cgg_1 := cell_of_block (i := 1) Hgg.out (v := .slice ag mg.length kg) rfl
    have cgg_2 := cell_of_block (i := 2) Hgg.out (v := .int .i64 Rg) rfl
    have cgw_0 := cell_of_block (i := 0) Hgw.out (v := .int .i64 Vg) rfl
    have cgw_1 := cell_of_block (i := 1) Hgw.out (v := .slice aw mg.length kw) rfl
    have cgw_2 := cell_of_block (i := 2) Hgw.out (v := .int .i64 Rg) rfl
    go_wp2_with fail
    refine (c_ldBdd (B := w6.heap.size) Vg Rg Vg Rg w6 (Nat.le_refl _) Ng.out Nw.out).mono ?_
    rintro e w7 ⟨hb, hq⟩
    replace Hgb := Go.Lib.hid ((hq.block _ lgb).trans Hgb.out)
    replace lgb := Nat.lt_of_lt_of_le lgb hq.size
    replace Hgg := Go.Lib.hid ((hq.block _ lgg).trans Hgg.out)
    replace lgg := Nat.lt_of_lt_of_le lgg hq.size
    replace Hgw := Go.Lib.hid ((hq.block _ lgw).trans Hgw.out)
    replace lgw := Nat.lt_of_lt_of_le lgw hq.size
    replace Nb := Go.Lib.hid ((Nb.out.below hq).mono hq.size)
    replace Ng := Go.Lib.hid ((Ng.out.below hq).mono hq.size)
    replace Nw := Go.Lib.hid ((Nw.out.below hq).mono hq.size)
    replace HB := Go.Lib.hid (HB.out.trans (hq.mono HB.out.size))
    clear cgg_0 cgg_1 cgg_2 cgw_0 cgw_1 cgw_2
    obtain rfl := boolIs_t ⟨rfl, rfl, rfl⟩ hb
    clear hb hq Nw Hgw lgw
    obtain ⟨d, hd, hd0, hd1⟩ : ∃ d, Vg - V = d ∧ 0 ≤ d ∧ d ≤ 13 := ⟨_, rfl, by omega, by omega⟩
    rw [hd] at HCN
    have hwd : IntKind.i64.wrap (Vg - V) = d := by rw [hd]; exact IntWalk.i64_in _ (by omega)
    have hwd2 : wrap64 (Vg - V) = d := by rw [hd]; exact IntWalk.wrap64_in _ (by omega)
    have hud : IntKind.u64.wrap d = d := IntWalk.u64_in _ (by omega)
    have hmd : min d.toNat 64 = d.toNat := by omega
    have hwi : IntKind.i64.wrap d = d := IntWalk.i64_in _ (by omega)
    have HBX := Go.Lib.hid (show ∀ w', Below w7.heap.size w7 w' → (fun w' => w'.cell? ⟨gb, 0, none⟩ = some (.int .i64 V) ∧ w'.cell? ⟨gb, 1, none⟩ = some (.slice xa xl xc) ∧ w'.cell? ⟨gb, 2, none⟩ = some (.int .i64 Rg) ∧ w'.cell? ⟨gg, 0, none⟩ = some (.int .i64 Vg) ∧ w'.cell? ⟨gg, 1, none⟩ = some (.slice ag mg.length kg) ∧ w'.cell? ⟨gg, 2, none⟩ = some (.int .i64 Rg)) w' from fun w' hb => ⟨keepc hb lgb (cell_of_block (i := 0) Hgb.out (v := .int .i64 V) rfl), keepc hb lgb (cell_of_block (i := 1) Hgb.out (v := .slice xa xl xc) rfl), keepc hb lgb (cell_of_block (i := 2) Hgb.out (v := .int .i64 Rg) rfl), keepc hb lgg (cell_of_block (i := 0) Hgg.out (v := .int .i64 Vg) rfl), keepc hb lgg (cell_of_block (i := 1) Hgg.out (v := .slice ag mg.length kg) rfl), keepc hb lgg (cell_of_block (i := 2) Hgg.out (v := .int .i64 Rg) rfl)⟩)
    have HQ0 := Go.Lib.hid (show Below w7.heap.size w7 w7.drew from (Below.refl _ w7).drew)
    have hS0 := HBX.out _ HQ0.out
    go_upto_region 10 with fail
    refine wp_region_held_drew (S := (fun w' => w'.cell? ⟨gb, 0, none⟩ = some (.int .i64 V) ∧ w'.cell? ⟨gb, 1, none⟩ = some (.slice xa xl xc) ∧ w'.cell? ⟨gb, 2, none⟩ = some (.int .i64 Rg) ∧ w'.cell? ⟨gg, 0, none⟩ = some (.int .i64 Vg) ∧ w'.cell? ⟨gg, 1, none⟩ = some (.slice ag mg.length kg) ∧ w'.cell? ⟨gg, 2, none⟩ = some (.int .i64 Rg))) (by kernel_rfl) ?_ (fun hHeld => ?_)
    · first | exact hS0 | exact HBX.out _ HQ3.out | exact HBX.out _ HQ2.out | exact HBX.out _ HQ1.out | exact HBX.out _ HQ0.out
    refine tL 0 (some 42) ?_
    refine wpAnyH_ready (rs := [1]) (by kernel_rfl) (by simp) ?_
    refine AllReadyH.cons (o := _) rfl (fun K hK => ?_) AllReadyH.nil
    go_simp
    refine (c_BddOkI (B := w7.heap.size) Vg Rg _ HQ0.out.size (Ng.out.below HQ0.out)).mono ?_
    rintro e v1 ⟨hb, hq⟩
    have HQ1 := Go.Lib.hid (HQ0.out.trans (hq.mono HQ0.out.size))
    obtain rfl := boolIs_t Og.out hb
    clear hb hq
    (try go_wp2_with fail)
    (try clear hHeld)
    refine hK.out _ _ ?_ (fun hHeld => ?_)
    · first | exact hS0 | exact HBX.out _ HQ3.out | exact HBX.out _ HQ2.out | exact HBX.out _ HQ1.out | exact HBX.out _ HQ0.out
    clear hK K
    (try simp only [Act.put, List.setIfInBounds_toArray, List.set_cons_zero, List.set_cons_succ])
    refine tL 2 (some 44) ?_
    refine tL 3 (some 45) ?_
    refine tL 4 (some 46) ?_
    refine tL 6 (some 48) ?_
    refine tL 8 (some 50) ?_
    refine tL 9 (some 51) ?_
    refine tL 10 (some 52) ?_
    refine tL 11 (some 53) ?_
    refine tL 12 (some 54) ?_
    refine wpAnyH_ready (rs := [5]) (by kernel_rfl) (by simp) ?_
    refine AllReadyH.cons (o := _) rfl (fun K hK => ?_) AllReadyH.nil
    go_simp
    refine (c_BddCountI (B := w7.heap.size) Vg Rg _ HQ1.out.size (Ng.out.below HQ1.out)).mono ?_
    rintro e v2 ⟨tg, rfl, hc, hq⟩
    have HQ2 := Go.Lib.hid (HQ1.out.trans (hq.mono HQ1.out.size))
    have hz := hc.is Og.out hn13.2
    have HZ := Go.Lib.hid hz.1
    have htg := And.intro hz.2.1 hz.2.2
    clear hc hq hz
    (try go_wp2_with fail)
    (try clear hHeld)
    refine hK.out _ _ ?_ (fun hHeld => ?_)
    · first | exact hS0 | exact HBX.out _ HQ3.out | exact HBX.out _ HQ2.out | exact HBX.out _ HQ1.out | exact HBX.out _ HQ0.out
    clear hK K
    (try simp only [Act.put, List.setIfInBounds_toArray, List.set_cons_zero, List.set_cons_succ])
    refine wpAnyH_ready (rs := [7]) (by kernel_rfl) (by simp) ?_
    refine AllReadyH.cons (o := _) rfl (fun K hK => ?_) AllReadyH.nil
    go_simp
    refine (c_BddCountI (B := w7.heap.size) V Rg _ HQ2.out.size (Nb.out.below HQ2.out)).mono ?_
    rintro e v3 ⟨tb, rfl, hc, hq⟩
    have HQ3 := Go.Lib.hid (HQ2.out.trans (hq.mono HQ2.out.size))
    have hz := hc.is Ob.out hv.2
    have hsh : tb * 2 ^ d.toNat = tg := by rw [hz.1, HZ.out]; exact HCN.out.symm
    have hsw : IntKind.i64.wrap (tb * 2 ^ d.toNat) = tg := by rw [hsh]; exact IntWalk.i64_in _ (by omega)
    have hfin : IntKind.i64.wrap (tb * 2 ^ min (IntKind.u64.wrap (IntKind.i64.wrap d)).toNat 64) = tg := by rw [hwi, hud, hmd]; exact hsw
    have hti : IntKind.i64.wrap tg = tg := IntWalk.i64_in _ (by omega)
    have htn : (tg != IntKind.i64.wrap tg) = false := by rw [hti]; simp
    have hsw2 : wrap64 (tb * 2 ^ d.toNat) = tg := by rw [hsh]; exact IntWalk.wrap64_in _ (by omega)
    clear hc hq hz
    (try go_wp2_with fail)
    (try clear hHeld)
    refine hK.out _ _ ?_ (fun hHeld => ?_)
    · first | exact hS0 | exact HBX.out _ HQ3.out | exact HBX.out _ HQ2.out | exact HBX.out _ HQ1.out | exact HBX.out _ HQ0.out
    clear hK K
    (try simp only [Act.put, List.setIfInBounds_toArray, List.set_cons_zero, List.set_cons_succ])
    refine tL 13 (some 55) ?_
    refine tL 14 (some 56) ?_
    refine tL 15 (some 57) ?_
    refine wpAnyH_done (by kernel_rfl) ?_ _
    clear hHeld hS0 HBX
    have hq := HQ3.out
    replace Hgb := Go.Lib.hid ((hq.block _ lgb).trans Hgb.out)
    replace lgb := Nat.lt_of_lt_of_le lgb hq.size
    replace Hgg := Go.Lib.hid ((hq.block _ lgg).trans Hgg.out)
    replace lgg := Nat.lt_of_lt_of_le lgg hq.size
    replace Nb := Go.Lib.hid ((Nb.out.below hq).mono hq.size)
    replace Ng := Go.Lib.hid ((Ng.out.below hq).mono hq.size)
    replace HB := Go.Lib.hid (HB.out.trans (hq.mono HB.out.size))
    clear hq HQ0 HQ1 HQ2 HQ3
    clear htg
    go_upto_region 12 with fail
    clear hsh hsw hsw2 hti htn hfin hwi hwd hwd2 hud hmd hd hd0 hd1 HZ HCN
    go_wp2_with fail
    go_loopw [9, 10] (fun q _ wr => ∃ k : Nat, k ≤ 8 ∧ q = .int .i64 k ∧ Below v3.heap.size v3 wr) (fun q _ _ => 8 - (intOf q).toNat)
    case atStart => exact ⟨0, by omega, rfl, Below.refl _ _⟩
    case round =>
      obtain ⟨k, hk, rfl, hq⟩ := hrel
      have HW := Go.Lib.hid hq
      replace Hgb := Go.Lib.hid ((hq.block _ lgb).trans Hgb.out)
      replace lgb := Nat.lt_of_lt_of_le lgb hq.size
      replace Hgg := Go.Lib.hid ((hq.block _ lgg).trans Hgg.out)
      replace lgg := Nat.lt_of_lt_of_le lgg hq.size
      replace Nb := Go.Lib.hid ((Nb.out.below hq).mono hq.size)
      replace Ng := Go.Lib.hid ((Ng.out.below hq).mono hq.size)
      replace HB := Go.Lib.hid (HB.out.trans (hq.mono HB.out.size))
      clear hq
      by_cases hkl : k < 8
      · have hpwg := p2_pos Vg.toNat
        have hpzg : ¬ (2 : Int) ^ Vg.toNat = 0 := by have := p2_pos Vg.toNat; omega
        have hug : IntKind.u64.wrap Vg = Vg := IntWalk.u64_in _ (by omega)
        have hmg : min Vg.toNat 64 = Vg.toNat := by omega
        have hwg : IntKind.i64.wrap (2 ^ Vg.toNat) = 2 ^ Vg.toNat := pow_i64G hn13.1 hn13.2
        have hxg := wrap_p2 (n := Vg) (by omega)
        have hpwb := p2_pos V.toNat
        have hpzb : ¬ (2 : Int) ^ V.toNat = 0 := by have := p2_pos V.toNat; omega
        have hub : IntKind.u64.wrap V = V := IntWalk.u64_in _ (by omega)
        have hmb : min V.toNat 64 = V.toNat := by omega
        have hwb : IntKind.i64.wrap (2 ^ V.toNat) = 2 ^ V.toNat := pow_i64G hv.1 hv.2
        have hxb := wrap_p2 (n := V) (by omega)
        have hki : (k : Int) < 8 := by omega
        go_wp2_with fail
        refine (c_ldByte (B := W.heap.size) (k : Int) wr (HC.out.below HB.out) (by omega) (by omega)).mono ?_
        rintro e w10 ⟨v, rfl, hv0, hv1, hq⟩
        replace Hgb := Go.Lib.hid ((hq.block _ lgb).trans Hgb.out)
        replace lgb := Nat.lt_of_lt_of_le lgb hq.size
        replace Hgg := Go.Lib.hid ((hq.block _ lgg).trans Hgg.out)
        replace lgg := Nat.lt_of_lt_of_le lgg hq.size
        replace Nb := Go.Lib.hid ((Nb.out.below hq).mono hq.size)
        replace Ng := Go.Lib.hid ((Ng.out.below hq).mono hq.size)
        replace HW := Go.Lib.hid (HW.out.trans (hq.mono HW.out.size))
        replace HB := Go.Lib.hid (HB.out.trans (hq.mono HB.out.size))
        clear hq
        have htm : (v * 31 + (k : Int)).tmod (2 ^ Vg.toNat) = (v * 31 + (k : Int)) % 2 ^ Vg.toNat := Int.tmod_eq_emod_of_nonneg (by omega)
        go_upto_region 16 with fail
        obtain ⟨c, hcc, hc0⟩ : ∃ c, (v * 31 + (k : Int)) % 2 ^ Vg.toNat = c ∧ (0 ≤ c ∧ c < 2 ^ Vg.toNat) := ⟨_, rfl, Int.emod_nonneg _ hpzg, Int.emod_lt_of_pos _ hpwg⟩
        rw [hcc]
        have HC0 := Go.Lib.hid hc0
        have htc : c.tmod (2 ^ V.toNat) = c % 2 ^ V.toNat := Int.tmod_eq_emod_of_nonneg hc0.1
        have HC1 := Go.Lib.hid (show 0 ≤ c % 2 ^ V.toNat ∧ c % 2 ^ V.toNat < 2 ^ V.toNat from ⟨Int.emod_nonneg _ hpzb, Int.emod_lt_of_pos _ hpwb⟩)
        clear hcc hc0 htm hv0 hv1 hpwg hpzg hug hmg hwg hxg hpwb
        have HBX := Go.Lib.hid (show ∀ w', Below w10.heap.size w10 w' → (fun w' => w'.cell? ⟨gb, 0, none⟩ = some (.int .i64 V) ∧ w'.cell? ⟨gb, 1, none⟩ = some (.slice xa xl xc) ∧ w'.cell? ⟨gb, 2, none⟩ = some (.int .i64 Rg) ∧ w'.cell? ⟨gg, 0, none⟩ = some (.int .i64 Vg) ∧ w'.cell? ⟨gg, 1, none⟩ = some (.slice ag mg.length kg) ∧ w'.cell? ⟨gg, 2, none⟩ = some (.int .i64 Rg)) w' from fun w' hb => ⟨keepc hb lgb (cell_of_block (i := 0) Hgb.out (v := .int .i64 V) rfl), keepc hb lgb (cell_of_block (i := 1) Hgb.out (v := .slice xa xl xc) rfl), keepc hb lgb (cell_of_block (i := 2) Hgb.out (v := .int .i64 Rg) rfl), keepc hb lgg (cell_of_block (i := 0) Hgg.out (v := .int .i64 Vg) rfl), keepc hb lgg (cell_of_block (i := 1) Hgg.out (v := .slice ag mg.length kg) rfl), keepc hb lgg (cell_of_block (i := 2) Hgg.out (v := .int .i64 Rg) rfl)⟩)
        have HQ0 := Go.Lib.hid (show Below w10.heap.size w10 w10.drew from (Below.refl _ w10).drew)
        have hS0 := HBX.out _ HQ0.out
        go_upto_region 16 with fail
        refine wp_region_held_drew (S := (fun w' => w'.cell? ⟨gb, 0, none⟩ = some (.int .i64 V) ∧ w'.cell? ⟨gb, 1, none⟩ = some (.slice xa xl xc) ∧ w'.cell? ⟨gb, 2, none⟩ = some (.int .i64 Rg) ∧ w'.cell? ⟨gg, 0, none⟩ = some (.int .i64 Vg) ∧ w'.cell? ⟨gg, 1, none⟩ = some (.slice ag mg.length kg) ∧ w'.cell? ⟨gg, 2, none⟩ = some (.int .i64 Rg))) (by kernel_rfl) ?_ (fun hHeld => ?_)
        · first | exact hS0 | exact HBX.out _ HQ2.out | exact HBX.out _ HQ1.out | exact HBX.out _ HQ0.out
        refine tL 0 (some 72) ?_
        refine tL 1 (some 73) ?_
        refine tL 3 (some 75) ?_
        refine tL 4 (some 76) ?_
        refine tL 5 (some 77) ?_
        refine tL 6 (some 78) ?_
        refine tL 7 (some 79) ?_
        refine tL 8 (some 80) ?_
        refine tL 9 (some 81) ?_
        refine wpAnyH_ready (rs := [2]) (by kernel_rfl) (by simp) ?_
        refine AllReadyH.cons (o := _) rfl (fun K hK => ?_) AllReadyH.nil
        go_simp
        refine (c_BddEvalI (B := w10.heap.size) Vg Rg c _ HQ0.out.size (Ng.out.below HQ0.out)).mono ?_
        rintro e v1 ⟨hb, hq⟩
        have HQ1 := Go.Lib.hid (HQ0.out.trans (hq.mono HQ0.out.size))
        obtain rfl := evl_boolG Og.out HC0.out hb
        clear hb hq
        obtain ⟨be, hbe⟩ : ∃ b, evF mg Rg c = b := ⟨_, rfl⟩
        have HBE := Go.Lib.hid hbe
        rw [hbe]
        clear hbe
        (try go_wp2_with fail)
        (try clear hHeld)
        refine hK.out _ _ ?_ (fun hHeld => ?_)
        · first | exact hS0 | exact HBX.out _ HQ2.out | exact HBX.out _ HQ1.out | exact HBX.out _ HQ0.out
        clear hK K
        (try simp only [Act.put, List.setIfInBounds_toArray, List.set_cons_zero, List.set_cons_succ])
        refine wpAnyH_ready (rs := [10]) (by kernel_rfl) (by simp) ?_
        refine AllReadyH.cons (o := _) rfl (fun K hK => ?_) AllReadyH.nil
        go_simp
        refine (c_BddEvalI (B := w10.heap.size) V Rg _ _ HQ1.out.size (Nb.out.below HQ1.out)).mono ?_
        rintro e v2 ⟨hb, hq⟩
        have HQ2 := Go.Lib.hid (HQ1.out.trans (hq.mono HQ1.out.size))
        obtain rfl := evl_boolG Ob.out HC1.out hb
        clear hb hq
        rw [evF_mod Ob.out c, HBE.out]
        (try go_wp2_with fail)
        (try clear hHeld)
        refine hK.out _ _ ?_ (fun hHeld => ?_)
        · first | exact hS0 | exact HBX.out _ HQ2.out | exact HBX.out _ HQ1.out | exact HBX.out _ HQ0.out
        clear hK K
        (try simp only [Act.put, List.setIfInBounds_toArray, List.set_cons_zero, List.set_cons_succ])
        refine tL 11 (some 83) ?_
        refine wpAnyH_done (by kernel_rfl) ?_ _
        clear hHeld hS0 HBX
        have hq := HQ2.out
        replace Hgb := Go.Lib.hid ((hq.block _ lgb).trans Hgb.out)
        replace lgb := Nat.lt_of_lt_of_le lgb hq.size
        replace Hgg := Go.Lib.hid ((hq.block _ lgg).trans Hgg.out)
        replace lgg := Nat.lt_of_lt_of_le lgg hq.size
        replace Nb := Go.Lib.hid ((Nb.out.below hq).mono hq.size)
        replace Ng := Go.Lib.hid ((Ng.out.below hq).mono hq.size)
        replace HW := Go.Lib.hid (HW.out.trans (hq.mono HW.out.size))
        replace HB := Go.Lib.hid (HB.out.trans (hq.mono HB.out.size))
        clear hq HQ0 HQ1 HQ2
        clear hpzb hub hmb hwb hxb htc
        go_wp2_with fail
        go_roundw
        case rel => exact ⟨k + 1, by omega, by go_num, HW.out⟩
        case measure => simp [intOf]; omega
      · have hki : ¬ (k : Int) < 8 := by omega
        go_wp2_with fail
        go_ret
        exact ⟨rfl, HB.out⟩
end Go.Proofs.Ythdofdglbdfkkaa
