/-
  The law FnNumbers: a set is its numbers.
-/
import Derived.Test.YthdofdglbdfkkaaDoorRows
import Derived.Test.YthdofdglbdfkkaaDoorPaA
import Derived.Test.YthdofdglbdfkkaaDoorG0
import Derived.Test.YthdofdglbdfkkaaDoorRd
import Derived.Test.YthdofdglbdfkkaaDoorBdF
import Derived.Test.YthdofdglbdfkkaaDoorBdQ
import Derived.Test.YthdofdglbdfkkaaDoorBdV
import Derived.Test.YthdofdglbdfkkaaDoorBdW
import Derived.Test.YthdofdglbdfkkaaDoorFpL
import Derived.Test.YthdofdglbdfkkaaDoorFpE
import Derived.Test.YthdofdglbdfkkaaDoorFpF
import Derived.Test.YthdofdglbdfkkaaDoorFpD
import Derived.Test.YthdofdglbdfkkaaDoorFpN
import Derived.Test.YthdofdglbdfkkaaDoorFoE
import Derived.Test.YthdofdglbdfkkaaDoorFoF
import Derived.Test.YthdofdglbdfkkaaDoorFoD
import Derived.Test.YthdofdglbdfkkaaDoorLawD0
import Derived.WalkKit
import Derived.ProofKit
import Derived.OpenShut
import Derived.WalkSpells
import Derived.WalkLawsBesides
import Derived.Outline
import Derived.BigQuiet
import Derived.Handy
import Derived.LoopTactic
import Derived.Deep.Light
import Derived.Deep.RegionWith
import Derived.Deep.RegionHeld3
import Derived.Deep.DeepCutAuto
import Derived.Lib.Hide
import Derived.Maps.OwnRows
import Derived.Deep.Onto
import Derived.OneCell
import Derived.StillTailTactics
import Derived.Deep.AppendLies
import Derived.Deep.RegionLaw
namespace Go.Proofs.YthdofdglbdfkkaaDoor
open Go.ChangeShapes Go.WideShapes Go.ChangeAt Go.RowKit Go.Maps Go.ChangeMaps
set_option linter.unusedVariables false
set_option maxRecDepth 100000

set_option maxHeartbeats 32000000 in
theorem w_FnNumbers {a1 : Option Addr} {len1 cap1 : Nat} (W : World) (hgl : Glob W) (h1 : BytesAt W.heap.size W a1 len1 cap1) :
    Calls Tryd.prog 5 #[.slice a1 len1 cap1] W fun e w' => e = .returned (.bool true) ∧ Below W.heap.size W w' := by
  have GL := Go.Lib.hid hgl
  have HC := Go.Lib.hid h1
  have hm1 : (len1 : Int) ≤ 9223372036854775807 := by have h3 := h1.1; have h4 := h1.2.1; unfold maxLen at h4; omega
  clear hgl h1
  go_enter Tryd.func5, Tryd.ntmps5
  by_cases hl1 : 1048576 < len1
  · have hi1 : (1048576 : Int) < len1 := by omega
    go_wp2_with fail
    go_ret
    exact ⟨rfl, Below.refl _ _⟩
  have hi1 : ¬ (1048576 : Int) < len1 := by omega
  go_wp2_with fail
  refine (c_DrawBddFrom (B := W.heap.size) W HC.out (Nat.le_refl _)).mono ?_
  rintro e w1 ⟨n, v, zl, rfl, hown, hzb, hzl, ⟨hn1, hn2⟩, hq⟩
  replace GL := Go.Lib.hid (GL.out.below hq)
  have HB := Go.Lib.hid hq
  obtain ⟨al, cl, rfl, -⟩ := own_form hown
  have Nl := Go.Lib.hid (own_ints hown rfl)
  clear hown hzb hq
  go_wp2_with fail
  refine (c_BddFromI n w1 GL.out (Nat.le_refl _) Nl.out).mono ?_
  rintro e w2 ⟨x, V, R, b1, m, rfl, how, hrel, hq⟩
  replace GL := Go.Lib.hid (GL.out.below hq)
  replace Nl := Go.Lib.hid ((Nl.out.below hq).mono hq.size)
  replace HB := Go.Lib.hid (HB.out.trans (hq.mono HB.out.size))
  obtain ⟨ab, kb, rfl, -⟩ := OwnN.form how
  have CB := Go.Lib.hid hrel
  have Nb := Go.Lib.hid (OwnN.bns how rfl)
  clear how hrel hq
  go_upto_region 5 with fail
  refine code_gen (R := fun wb => wb.heap[w2.heap.size]? = some (.cells #[.int .i64 V, .slice ab m.length kb, .int .i64 R] 25 (0, 0)) ∧ Below w2.heap.size w2 wb) ⟨by first | exact (MapKept.heap_alloc _ _).1 | exact heap_alloc_new _ _, by go_grown⟩ ?_
  rintro w3 ⟨k, hq⟩
  have lgb : w2.heap.size < w3.heap.size := (Array.getElem?_eq_some_iff.1 k).1
  replace GL := Go.Lib.hid (GL.out.below hq)
  replace Nl := Go.Lib.hid ((Nl.out.below hq).mono hq.size)
  replace Nb := Go.Lib.hid ((Nb.out.below hq).mono hq.size)
  replace HB := Go.Lib.hid (HB.out.trans (hq.mono HB.out.size))
  obtain ⟨gb, hgb⟩ : ∃ g, w2.heap.size = g := ⟨_, rfl⟩
  rw [hgb] at k lgb ⊢
  have Hgb := Go.Lib.hid k
  clear k hq hgb
  go_wp2_with fail
  refine (c_BddFromS n w3 (Nat.le_refl _) Nl.out).mono ?_
  rintro e w4 ⟨y, V', R', b2, m', rfl, how, hrel, hq⟩
  replace Hgb := Go.Lib.hid ((hq.block _ lgb).trans Hgb.out)
  replace lgb := Nat.lt_of_lt_of_le lgb hq.size
  replace GL := Go.Lib.hid (GL.out.below hq)
  replace Nl := Go.Lib.hid ((Nl.out.below hq).mono hq.size)
  replace Nb := Go.Lib.hid ((Nb.out.below hq).mono hq.size)
  replace HB := Go.Lib.hid (HB.out.trans (hq.mono HB.out.size))
  obtain ⟨e1, e2, e3, e4⟩ := CB.out.inj (fun h => (of_decide_eq_true h.1 : 0 ≤ n ∧ n ≤ 13).1) hrel
  subst e1
  subst e2
  subst e3
  subst e4
  obtain ⟨aw, kw, rfl, -⟩ := OwnN.form how
  have Nw := Go.Lib.hid (OwnN.bns how rfl)
  clear how hrel hq
  go_upto_region 6 with fail
  refine code_gen (R := fun wb => wb.heap[w4.heap.size]? = some (.cells #[.int .i64 V, .slice aw m.length kw, .int .i64 R] 25 (0, 0)) ∧ Below w4.heap.size w4 wb) ⟨by first | exact (MapKept.heap_alloc _ _).1 | exact heap_alloc_new _ _, by go_grown⟩ ?_
  rintro w5 ⟨k, hq⟩
  have lgw : w4.heap.size < w5.heap.size := (Array.getElem?_eq_some_iff.1 k).1
  replace Hgb := Go.Lib.hid ((hq.block _ lgb).trans Hgb.out)
  replace lgb := Nat.lt_of_lt_of_le lgb hq.size
  replace GL := Go.Lib.hid (GL.out.below hq)
  replace Nl := Go.Lib.hid ((Nl.out.below hq).mono hq.size)
  replace Nb := Go.Lib.hid ((Nb.out.below hq).mono hq.size)
  replace Nw := Go.Lib.hid ((Nw.out.below hq).mono hq.size)
  replace HB := Go.Lib.hid (HB.out.trans (hq.mono HB.out.size))
  obtain ⟨gw, hgw⟩ : ∃ g, w4.heap.size = g := ⟨_, rfl⟩
  rw [hgw] at k lgw ⊢
  have Hgw := Go.Lib.hid k
  clear k hq hgw
  cases b1 with
  | false =>
    have cb0 := cell_of_block (i := 0) Hgb.out (v := .int .i64 V) rfl
    have cb1 := cell_of_block (i := 1) Hgb.out (v := .slice ab m.length kb) rfl
    have cb2 := cell_of_block (i := 2) Hgb.out (v := .int .i64 R) rfl
    have cw0 := cell_of_block (i := 0) Hgw.out (v := .int .i64 V) rfl
    have cw1 := cell_of_block (i := 1) Hgw.out (v := .slice aw m.length kw) rfl
    have cw2 := cell_of_block (i := 2) Hgw.out (v := .int .i64 R) rfl
    go_wp2_with fail
    refine (c_ldBdd (B := w5.heap.size) V R V R w5 (Nat.le_refl _) Nb.out Nw.out).mono ?_
    rintro e wz ⟨hb, hq⟩
    obtain rfl := boolIs_t ⟨rfl, rfl, rfl⟩ hb
    have HF := Go.Lib.hid (HB.out.trans (hq.mono HB.out.size))
    clear hb hq cb0 cb1 cb2 cw0 cw1 cw2
    go_wp2_with fail
    go_ret
    exact ⟨rfl, HF.out⟩
  | true =>
  obtain ⟨e1, ho, hm, h256, hl256, ha⟩ := from_facts CB.out
  subst e1
  have HO := Go.Lib.hid ho
  have HMM := Go.Lib.hid hm
  have H256 := Go.Lib.hid h256
  have HL256 := Go.Lib.hid hl256
  have HA := Go.Lib.hid ha
  have HV := Go.Lib.hid CB.out.yes.1.1
  have hn13 : 0 ≤ n ∧ n ≤ 13 := of_decide_eq_true HV.out
  clear ho hm h256 ha hn1 hn2 CB
  have cgb_0 := cell_of_block (i := 0) Hgb.out (v := .int .i64 n) rfl
  have cgb_1 := cell_of_block (i := 1) Hgb.out (v := .slice ab m.length kb) rfl
  have cgb_2 := cell_of_block (i := 2) Hgb.out (v := .int .i64 R) rfl
  have cgw_0 := cell_of_block (i := 0) Hgw.out (v := .int .i64 n) rfl
  have cgw_1 := cell_of_block (i := 1) Hgw.out (v := .slice aw m.length kw) rfl
  have cgw_2 := cell_of_block (i := 2) Hgw.out (v := .int .i64 R) rfl
  go_wp2_with fail
  refine (c_ldBdd (B := w5.heap.size) n R n R w5 (Nat.le_refl _) Nb.out Nw.out).mono ?_
  rintro e w6 ⟨hb, hq⟩
  replace Hgb := Go.Lib.hid ((hq.block _ lgb).trans Hgb.out)
  replace lgb := Nat.lt_of_lt_of_le lgb hq.size
  replace Hgw := Go.Lib.hid ((hq.block _ lgw).trans Hgw.out)
  replace lgw := Nat.lt_of_lt_of_le lgw hq.size
  replace GL := Go.Lib.hid (GL.out.below hq)
  replace Nl := Go.Lib.hid ((Nl.out.below hq).mono hq.size)
  replace Nb := Go.Lib.hid ((Nb.out.below hq).mono hq.size)
  replace Nw := Go.Lib.hid ((Nw.out.below hq).mono hq.size)
  replace HB := Go.Lib.hid (HB.out.trans (hq.mono HB.out.size))
  clear cgb_0 cgb_1 cgb_2 cgw_0 cgw_1 cgw_2
  obtain rfl := boolIs_t ⟨rfl, rfl, rfl⟩ hb
  clear hb hq Nw Hgw lgw
  have cgb_0 := cell_of_block (i := 0) Hgb.out (v := .int .i64 n) rfl
  have cgb_1 := cell_of_block (i := 1) Hgb.out (v := .slice ab m.length kb) rfl
  have cgb_2 := cell_of_block (i := 2) Hgb.out (v := .int .i64 R) rfl
  go_wp2_with fail
  refine (c_BddCodesI n R w6 (Nat.le_refl _) Nb.out).mono ?_
  rintro e w7 ⟨v, zk, bk, rfl, hown, hrel, hq⟩
  replace Hgb := Go.Lib.hid ((hq.block _ lgb).trans Hgb.out)
  replace lgb := Nat.lt_of_lt_of_le lgb hq.size
  replace GL := Go.Lib.hid (GL.out.below hq)
  replace Nl := Go.Lib.hid ((Nl.out.below hq).mono hq.size)
  replace Nb := Go.Lib.hid ((Nb.out.below hq).mono hq.size)
  replace HB := Go.Lib.hid (HB.out.trans (hq.mono HB.out.size))
  clear cgb_0 cgb_1 cgb_2
  obtain ⟨hzk, rfl⟩ : zk = cds m R (2 ^ n.toNat) ∧ bk = true := by
    rcases hrel with ⟨h, -⟩ | ⟨-, h, -⟩ | ⟨-, -, h1, h2⟩
    · exact absurd HO.out h
    · have := H256.out; omega
    · exact ⟨h1, h2⟩
  have HZK := Go.Lib.hid hzk
  have HL2 := Go.Lib.hid (show zk.length ≤ 256 by have h1 := cds_len m R (2 ^ n.toNat); have h2 := H256.out; unfold cntP at h2; rw [HZK.out]; omega)
  obtain ⟨ak, ck, rfl, -⟩ := own_form hown
  have Nk := Go.Lib.hid (own_ints hown rfl)
  clear hown hrel hq hzk
  have cgb_0 := cell_of_block (i := 0) Hgb.out (v := .int .i64 n) rfl
  have cgb_1 := cell_of_block (i := 1) Hgb.out (v := .slice ab m.length kb) rfl
  have cgb_2 := cell_of_block (i := 2) Hgb.out (v := .int .i64 R) rfl
  go_wp2_with fail
  refine (c_BddCountI (B := w7.heap.size) n R w7 (Nat.le_refl _) Nb.out).mono ?_
  rintro e w8 ⟨t, rfl, hc, hq⟩
  replace Hgb := Go.Lib.hid ((hq.block _ lgb).trans Hgb.out)
  replace lgb := Nat.lt_of_lt_of_le lgb hq.size
  replace GL := Go.Lib.hid (GL.out.below hq)
  replace Nl := Go.Lib.hid ((Nl.out.below hq).mono hq.size)
  replace Nb := Go.Lib.hid ((Nb.out.below hq).mono hq.size)
  replace Nk := Go.Lib.hid ((Nk.out.below hq).mono hq.size)
  replace HB := Go.Lib.hid (HB.out.trans (hq.mono HB.out.size))
  clear cgb_0 cgb_1 cgb_2
  have htz : (zk.length : Int) = t := by rw [HZK.out, (hc.is HO.out hn13.2).1, cds_len]; rfl
  have htz' : ((zk.length : Int) == t) = true := by simp [htz]
  clear hc hq
  go_wp2_with fail
  clear htz htz'
  go_loopw [11] (fun q wr => ∃ k : Nat, k ≤ zl.length ∧ q = .int .i64 k ∧ Below w8.heap.size w8 wr) (fun q _ => zl.length - (intOf q).toNat)
  case atStart => exact ⟨0, by omega, rfl, Below.refl _ _⟩
  case round =>
    obtain ⟨k, hk, rfl, hq⟩ := hrel
    have HW := Go.Lib.hid hq
    replace Hgb := Go.Lib.hid ((hq.block _ lgb).trans Hgb.out)
    replace lgb := Nat.lt_of_lt_of_le lgb hq.size
    replace GL := Go.Lib.hid (GL.out.below hq)
    replace Nl := Go.Lib.hid ((Nl.out.below hq).mono hq.size)
    replace Nb := Go.Lib.hid ((Nb.out.below hq).mono hq.size)
    replace Nk := Go.Lib.hid ((Nk.out.below hq).mono hq.size)
    replace HB := Go.Lib.hid (HB.out.trans (hq.mono HB.out.size))
    clear hq
    by_cases hkl : k < zl.length
    · have hki : (k : Int) < zl.length := by omega
      obtain ⟨x, b', off', hx, -, rfl, hbB, c0⟩ := int_at Nl.out hkl
      have hxm : x ∈ zl := by rw [← hx]; simp [List.getD, hkl]
      have HE := Go.Lib.hid (show EvlP n R x m from ⟨HO.out, ((HMM.out x).1 hxm).1, ((HMM.out x).1 hxm).2⟩)
      clear hx hxm hkl
      have HBX := Go.Lib.hid (show ∀ w', Below wr.heap.size wr w' → (fun w' => w'.cell? ⟨gb, 0, none⟩ = some (.int .i64 n) ∧ w'.cell? ⟨gb, 1, none⟩ = some (.slice ab m.length kb) ∧ w'.cell? ⟨gb, 2, none⟩ = some (.int .i64 R) ∧ w'.cell? ⟨b', off' + k, none⟩ = some (.int .i64 x)) w' from fun w' hb => ⟨keepc hb lgb (cell_of_block (i := 0) Hgb.out (v := .int .i64 n) rfl), keepc hb lgb (cell_of_block (i := 1) Hgb.out (v := .slice ab m.length kb) rfl), keepc hb lgb (cell_of_block (i := 2) Hgb.out (v := .int .i64 R) rfl), keepc hb hbB c0⟩)
      have HQ0 := Go.Lib.hid (show Below wr.heap.size wr wr.drew from (Below.refl _ wr).drew)
      have hS0 := HBX.out _ HQ0.out
      go_upto_region 16 with fail
      refine wp_region_held_drew (S := (fun w' => w'.cell? ⟨gb, 0, none⟩ = some (.int .i64 n) ∧ w'.cell? ⟨gb, 1, none⟩ = some (.slice ab m.length kb) ∧ w'.cell? ⟨gb, 2, none⟩ = some (.int .i64 R) ∧ w'.cell? ⟨b', off' + k, none⟩ = some (.int .i64 x))) (by kernel_rfl) ?_ (fun hHeld => ?_)
      · first | exact hS0 | exact HBX.out _ HQ2.out | exact HBX.out _ HQ1.out | exact HBX.out _ HQ0.out
      refine tL 0 (some 68) ?_
      refine tL 1 (some 69) ?_
      refine tL 2 (some 70) ?_
      refine tL 3 (some 71) ?_
      refine tL 4 (some 72) ?_
      refine wpAnyH_ready (rs := [5]) (by kernel_rfl) (by simp) ?_
      refine AllReadyH.cons (o := _) rfl (fun K hK => ?_) AllReadyH.nil
      go_simp
      refine (c_BddEvalI (B := wr.heap.size) n R x _ HQ0.out.size (Nb.out.below HQ0.out)).mono ?_
      rintro e v1 ⟨hb, hq⟩
      have HQ1 := Go.Lib.hid (HQ0.out.trans (hq.mono HQ0.out.size))
      obtain rfl := boolIs_t HE.out hb
      clear hb hq
      (try go_wp2_with fail)
      (try clear hHeld)
      refine hK.out _ _ ?_ (fun hHeld => ?_)
      · first | exact hS0 | exact HBX.out _ HQ2.out | exact HBX.out _ HQ1.out | exact HBX.out _ HQ0.out
      clear hK K
      (try simp only [Act.put, List.setIfInBounds_toArray, List.set_cons_zero, List.set_cons_succ])
      refine tL 6 (some 74) ?_
      refine wpAnyH_done (by kernel_rfl) ?_ _
      clear hHeld
      go_wp2_with fail
      go_roundw
      case rel => exact ⟨k + 1, by omega, by go_num, HW.out.trans (HQ1.out.mono HW.out.size)⟩
      case measure => simp [intOf]; omega
    · have hki : ¬ (k : Int) < zl.length := by omega
      clear HW hk hkl
      go_wp2_with fail
      obtain ⟨wo, hwo⟩ : ∃ x, x = wr := ⟨_, rfl⟩
      subst hwo
      go_loopw [12] (fun q wr => ∃ k : Nat, k ≤ zk.length ∧ q = .int .i64 k ∧ Below wo.heap.size wo wr) (fun q _ => zk.length - (intOf q).toNat)
      case atStart => exact ⟨0, by omega, rfl, Below.refl _ _⟩
      case round =>
        obtain ⟨k, hk, rfl, hq⟩ := hrel
        have HW := Go.Lib.hid hq
        replace Hgb := Go.Lib.hid ((hq.block _ lgb).trans Hgb.out)
        replace lgb := Nat.lt_of_lt_of_le lgb hq.size
        replace GL := Go.Lib.hid (GL.out.below hq)
        replace Nl := Go.Lib.hid ((Nl.out.below hq).mono hq.size)
        replace Nb := Go.Lib.hid ((Nb.out.below hq).mono hq.size)
        replace Nk := Go.Lib.hid ((Nk.out.below hq).mono hq.size)
        replace HB := Go.Lib.hid (HB.out.trans (hq.mono HB.out.size))
        clear hq
        by_cases hkl : k < zk.length
        · have hki : (k : Int) < zk.length := by omega
          have hzk256 : zk.length ≤ 256 := HL2.out
          obtain ⟨x, b', off', hx, -, hak, hbB, c0⟩ := int_at Nk.out hkl
          have hxm : x ∈ zk := by rw [← hx]; simp [List.getD, hkl]
          have HE := Go.Lib.hid (show EvlP n R x m by rw [HZK.out] at hxm; have := (cds_has HO.out).1 hxm; exact ⟨HO.out, this.1, this.2⟩)
          clear hxm
          by_cases hk0 : k = 0
          · subst hak
            have hd : decide ((0 : Int) < (k : Int)) = false := decide_eq_false (by omega)
            have hdn : decide (0 < k) = false := decide_eq_false (by omega)
            have hdm : ¬ 0 < k := by omega
            clear hx hkl hk0
            have HBX := Go.Lib.hid (show ∀ w', Below wr.heap.size wr w' → (fun w' => w'.cell? ⟨gb, 0, none⟩ = some (.int .i64 n) ∧ w'.cell? ⟨gb, 1, none⟩ = some (.slice ab m.length kb) ∧ w'.cell? ⟨gb, 2, none⟩ = some (.int .i64 R) ∧ w'.cell? ⟨b', off' + k, none⟩ = some (.int .i64 x)) w' from fun w' hb => ⟨keepc hb lgb (cell_of_block (i := 0) Hgb.out (v := .int .i64 n) rfl), keepc hb lgb (cell_of_block (i := 1) Hgb.out (v := .slice ab m.length kb) rfl), keepc hb lgb (cell_of_block (i := 2) Hgb.out (v := .int .i64 R) rfl), keepc hb hbB c0⟩)
            have HQ0 := Go.Lib.hid (show Below wr.heap.size wr wr.drew from (Below.refl _ wr).drew)
            have hS0 := HBX.out _ HQ0.out
            go_upto_region 21 with fail
            refine wp_region_held_drew (S := (fun w' => w'.cell? ⟨gb, 0, none⟩ = some (.int .i64 n) ∧ w'.cell? ⟨gb, 1, none⟩ = some (.slice ab m.length kb) ∧ w'.cell? ⟨gb, 2, none⟩ = some (.int .i64 R) ∧ w'.cell? ⟨b', off' + k, none⟩ = some (.int .i64 x))) (by kernel_rfl) ?_ (fun hHeld => ?_)
            · first | exact hS0 | exact HBX.out _ HQ2.out | exact HBX.out _ HQ1.out | exact HBX.out _ HQ0.out
            refine tL 0 (some 81) ?_
            refine tL 1 (some 82) ?_
            refine tL 2 (some 83) ?_
            refine tU 3 (some 84) ?_
            refine tU 4 (some 85) ?_
            refine tU 5 (some 86) ?_
            refine tU 6 (some 87) ?_
            refine tU 7 (some 88) ?_
            refine tU 8 (some 89) ?_
            refine tU 9 (some 90) ?_
            refine tU 10 (some 91) ?_
            refine tU 11 (some 92) ?_
            refine tU 12 (some 93) ?_
            refine tL 13 (some 94) ?_
            refine tL 14 (some 95) ?_
            refine tL 15 (some 96) ?_
            refine tL 16 (some 97) ?_
            refine tL 17 (some 98) ?_
            refine tL 18 (some 99) ?_
            refine tL 19 (some 100) ?_
            refine wpAnyH_ready (rs := [20]) (by kernel_rfl) (by simp) ?_
            refine AllReadyH.cons (o := _) rfl (fun K hK => ?_) AllReadyH.nil
            go_simp
            refine (c_BddEvalI (B := wr.heap.size) n R x _ HQ0.out.size (Nb.out.below HQ0.out)).mono ?_
            rintro e v1 ⟨hb, hq⟩
            have HQ1 := Go.Lib.hid (HQ0.out.trans (hq.mono HQ0.out.size))
            obtain rfl := boolIs_t HE.out hb
            clear hb hq
            (try go_wp2_with fail)
            (try clear hHeld)
            refine hK.out _ _ ?_ (fun hHeld => ?_)
            · first | exact hS0 | exact HBX.out _ HQ2.out | exact HBX.out _ HQ1.out | exact HBX.out _ HQ0.out
            clear hK K
            (try simp only [Act.put, List.setIfInBounds_toArray, List.set_cons_zero, List.set_cons_succ])
            refine tL 21 (some 102) ?_
            refine tL 22 (some 103) ?_
            refine wpAnyH_done (by kernel_rfl) ?_ _
            clear hd hdn hdm
            clear hHeld
            go_wp2_with fail
            go_roundw
            case rel => exact ⟨k + 1, by omega, by go_num, HW.out.trans (HQ1.out.mono HW.out.size)⟩
            case measure => simp [intOf]; omega
          · obtain ⟨j, hj⟩ : ∃ j : Nat, k = j + 1 := ⟨k - 1, by omega⟩
            have hjl : j < zk.length := by omega
            obtain ⟨z, b2, off2, hz, -, hak2, -, c1⟩ := int_at Nk.out hjl
            have HLT := Go.Lib.hid (show z < x by rw [← hz, ← hx, HZK.out]; exact sorted_at cds_sorted (by omega) (by rw [← HZK.out]; omega))
            subst hak
            simp only [Option.some.injEq, Addr.mk.injEq, and_true] at hak2
            obtain ⟨rfl, rfl⟩ := hak2
            have hd : decide ((0 : Int) < (k : Int)) = true := decide_eq_true (by omega)
            have hdn : decide (0 < k) = true := decide_eq_true (by omega)
            have hdm : 0 < k := by omega
            have hd2 : decide (x ≤ z) = false := decide_eq_false (by have := HLT.out; omega)
            have hkj : (k : Int) - 1 = (j : Int) := by omega
            have hji : (j : Int) < zk.length := by omega
            have hji0 : (0 : Int) ≤ (j : Int) := by omega
            have hwj : IntKind.i64.wrap (j : Int) = (j : Int) := IntWalk.i64_in _ (by have := HL2.out; omega)
            have hwj2 : wrap64 (j : Int) = (j : Int) := IntWalk.wrap64_in _ (by have := HL2.out; omega)
            clear hz hx hkl hjl hj hk0
            have HBX := Go.Lib.hid (show ∀ w', Below wr.heap.size wr w' → (fun w' => w'.cell? ⟨gb, 0, none⟩ = some (.int .i64 n) ∧ w'.cell? ⟨gb, 1, none⟩ = some (.slice ab m.length kb) ∧ w'.cell? ⟨gb, 2, none⟩ = some (.int .i64 R) ∧ w'.cell? ⟨b', off' + k, none⟩ = some (.int .i64 x) ∧ w'.cell? ⟨b', off' + j, none⟩ = some (.int .i64 z)) w' from fun w' hb => ⟨keepc hb lgb (cell_of_block (i := 0) Hgb.out (v := .int .i64 n) rfl), keepc hb lgb (cell_of_block (i := 1) Hgb.out (v := .slice ab m.length kb) rfl), keepc hb lgb (cell_of_block (i := 2) Hgb.out (v := .int .i64 R) rfl), keepc hb hbB c0, keepc hb hbB c1⟩)
            have HQ0 := Go.Lib.hid (show Below wr.heap.size wr wr.drew from (Below.refl _ wr).drew)
            have hS0 := HBX.out _ HQ0.out
            go_upto_region 21 with fail
            refine wp_region_held_drew (S := (fun w' => w'.cell? ⟨gb, 0, none⟩ = some (.int .i64 n) ∧ w'.cell? ⟨gb, 1, none⟩ = some (.slice ab m.length kb) ∧ w'.cell? ⟨gb, 2, none⟩ = some (.int .i64 R) ∧ w'.cell? ⟨b', off' + k, none⟩ = some (.int .i64 x) ∧ w'.cell? ⟨b', off' + j, none⟩ = some (.int .i64 z))) (by kernel_rfl) ?_ (fun hHeld => ?_)
            · first | exact hS0 | exact HBX.out _ HQ2.out | exact HBX.out _ HQ1.out | exact HBX.out _ HQ0.out
            refine tL 0 (some 81) ?_
            refine tL 1 (some 82) ?_
            refine tL 2 (some 83) ?_
            refine tL 3 (some 84) ?_
            refine tL 4 (some 85) ?_
            refine tL 5 (some 86) ?_
            refine tL 6 (some 87) ?_
            refine tL 7 (some 88) ?_
            refine tL 8 (some 89) ?_
            refine tL 9 (some 90) ?_
            refine tL 10 (some 91) ?_
            refine tL 11 (some 92) ?_
            refine tL 12 (some 93) ?_
            refine tL 13 (some 94) ?_
            refine tL 14 (some 95) ?_
            refine tL 15 (some 96) ?_
            refine tL 16 (some 97) ?_
            refine tL 17 (some 98) ?_
            refine tL 18 (some 99) ?_
            refine tL 19 (some 100) ?_
            refine wpAnyH_ready (rs := [20]) (by kernel_rfl) (by simp) ?_
            refine AllReadyH.cons (o := _) rfl (fun K hK => ?_) AllReadyH.nil
            go_simp
            refine (c_BddEvalI (B := wr.heap.size) n R x _ HQ0.out.size (Nb.out.below HQ0.out)).mono ?_
            rintro e v1 ⟨hb, hq⟩
            have HQ1 := Go.Lib.hid (HQ0.out.trans (hq.mono HQ0.out.size))
            obtain rfl := boolIs_t HE.out hb
            clear hb hq
            (try go_wp2_with fail)
            (try clear hHeld)
            refine hK.out _ _ ?_ (fun hHeld => ?_)
            · first | exact hS0 | exact HBX.out _ HQ2.out | exact HBX.out _ HQ1.out | exact HBX.out _ HQ0.out
            clear hK K
            (try simp only [Act.put, List.setIfInBounds_toArray, List.set_cons_zero, List.set_cons_succ])
            refine tL 21 (some 102) ?_
            refine tL 22 (some 103) ?_
            refine wpAnyH_done (by kernel_rfl) ?_ _
            clear hkj hji hji0 hwj hwj2 hd hdn hdm hd2
            clear hHeld
            go_wp2_with fail
            go_roundw
            case rel => exact ⟨k + 1, by omega, by go_num, HW.out.trans (HQ1.out.mono HW.out.size)⟩
            case measure => simp [intOf]; omega
        · have hki2 : ¬ (k : Int) < zk.length := by omega
          clear HW hk hkl
          go_wp2_with fail
          refine (c_BddFromI n wr GL.out (Nat.le_refl _) Nk.out).mono ?_
          rintro e w11 ⟨x, V2, R2, b2, m2, rfl, how, hrel, hq⟩
          replace Hgb := Go.Lib.hid ((hq.block _ lgb).trans Hgb.out)
          replace lgb := Nat.lt_of_lt_of_le lgb hq.size
          replace GL := Go.Lib.hid (GL.out.below hq)
          replace Nl := Go.Lib.hid ((Nl.out.below hq).mono hq.size)
          replace Nb := Go.Lib.hid ((Nb.out.below hq).mono hq.size)
          replace Nk := Go.Lib.hid ((Nk.out.below hq).mono hq.size)
          replace HB := Go.Lib.hid (HB.out.trans (hq.mono HB.out.size))
          obtain ⟨e1, e2, e3, e4⟩ := from_again HV.out HO.out HMM.out H256.out HL256.out HA.out (HZK.out ▸ hrel)
          subst e1
          subst e2
          subst e3
          subst e4
          obtain ⟨aa, ka, rfl, -⟩ := OwnN.form how
          have Na := Go.Lib.hid (OwnN.bns how rfl)
          clear how hrel hq
          go_upto_region 24 with fail
          refine code_gen (R := fun wb => wb.heap[w11.heap.size]? = some (.cells #[.int .i64 n, .slice aa m.length ka, .int .i64 R] 25 (0, 0)) ∧ Below w11.heap.size w11 wb) ⟨by first | exact (MapKept.heap_alloc _ _).1 | exact heap_alloc_new _ _, by go_grown⟩ ?_
          rintro w12 ⟨k, hq⟩
          have lga : w11.heap.size < w12.heap.size := (Array.getElem?_eq_some_iff.1 k).1
          replace Hgb := Go.Lib.hid ((hq.block _ lgb).trans Hgb.out)
          replace lgb := Nat.lt_of_lt_of_le lgb hq.size
          replace GL := Go.Lib.hid (GL.out.below hq)
          replace Nl := Go.Lib.hid ((Nl.out.below hq).mono hq.size)
          replace Nb := Go.Lib.hid ((Nb.out.below hq).mono hq.size)
          replace Nk := Go.Lib.hid ((Nk.out.below hq).mono hq.size)
          replace Na := Go.Lib.hid ((Na.out.below hq).mono hq.size)
          replace HB := Go.Lib.hid (HB.out.trans (hq.mono HB.out.size))
          obtain ⟨ga, hga⟩ : ∃ g, w11.heap.size = g := ⟨_, rfl⟩
          rw [hga] at k lga ⊢
          have Hga := Go.Lib.hid k
          clear k hq hga
          have cgb_0 := cell_of_block (i := 0) Hgb.out (v := .int .i64 n) rfl
          have cgb_1 := cell_of_block (i := 1) Hgb.out (v := .slice ab m.length kb) rfl
          have cgb_2 := cell_of_block (i := 2) Hgb.out (v := .int .i64 R) rfl
          go_wp2_with fail
          refine (c_BddLeastI (B := w12.heap.size) n R w12 (Nat.le_refl _) Nb.out).mono ?_
          rintro e w13 ⟨r, bl, rfl, hrel, hq⟩
          replace Hgb := Go.Lib.hid ((hq.block _ lgb).trans Hgb.out)
          replace lgb := Nat.lt_of_lt_of_le lgb hq.size
          replace Hga := Go.Lib.hid ((hq.block _ lga).trans Hga.out)
          replace lga := Nat.lt_of_lt_of_le lga hq.size
          replace GL := Go.Lib.hid (GL.out.below hq)
          replace Nl := Go.Lib.hid ((Nl.out.below hq).mono hq.size)
          replace Nb := Go.Lib.hid ((Nb.out.below hq).mono hq.size)
          replace Nk := Go.Lib.hid ((Nk.out.below hq).mono hq.size)
          replace Na := Go.Lib.hid ((Na.out.below hq).mono hq.size)
          replace HB := Go.Lib.hid (HB.out.trans (hq.mono HB.out.size))
          clear cgb_0 cgb_1 cgb_2
          obtain ⟨f1, f2⟩ := least_first HO.out HMM.out hrel
          have HF2 := Go.Lib.hid f2
          clear hrel hq f2
          have cga_0 := cell_of_block (i := 0) Hga.out (v := .int .i64 n) rfl
          have cga_1 := cell_of_block (i := 1) Hga.out (v := .slice aa m.length ka) rfl
          have cga_2 := cell_of_block (i := 2) Hga.out (v := .int .i64 R) rfl
          have cgb_0 := cell_of_block (i := 0) Hgb.out (v := .int .i64 n) rfl
          have cgb_1 := cell_of_block (i := 1) Hgb.out (v := .slice ab m.length kb) rfl
          have cgb_2 := cell_of_block (i := 2) Hgb.out (v := .int .i64 R) rfl
          go_wp2_with fail
          refine (c_ldBdd (B := w13.heap.size) n R n R w13 (Nat.le_refl _) Na.out Nb.out).mono ?_
          rintro e wf ⟨hb, hq⟩
          obtain rfl := boolIs_t ⟨rfl, rfl, rfl⟩ hb
          replace Nk := Go.Lib.hid ((Nk.out.below hq).mono hq.size)
          have HF := Go.Lib.hid (HB.out.trans (hq.mono HB.out.size))
          clear hb hq cga_0 cga_1 cga_2 cgb_0 cgb_1 cgb_2
          have hzl9 : (zl.length : Int) ≤ 9223372036854775807 := by omega
          have hzk9 : (zk.length : Int) ≤ 9223372036854775807 := by have := HL2.out; omega
          cases bl with
          | false =>
            have hz : (zl.length : Int) = 0 := by have := f1.2; rcases Nat.eq_zero_or_pos zl.length with h | h; omega; exact absurd (this h) (by decide)
            clear f1
            go_wp2_with fail
            go_ret
            exact ⟨rfl, HF.out⟩
          | true =>
            have hz : (0 : Int) < zl.length := by have := f1.1 rfl; omega
            clear f1
            obtain ⟨g1, g2⟩ := HF2.out rfl
            rw [← HZK.out] at g1 g2
            obtain ⟨x, b', off', hx, -, rfl, -, c0⟩ := int_at Nk.out g1
            obtain rfl : r = x := by rw [g2, ← hx]
            have hz2 : (0 : Int) < zk.length := by omega
            simp only [Nat.add_zero] at c0
            clear hx g2
            go_wp2_with fail
            go_ret
            exact ⟨rfl, HF.out⟩
end Go.Proofs.YthdofdglbdfkkaaDoor
