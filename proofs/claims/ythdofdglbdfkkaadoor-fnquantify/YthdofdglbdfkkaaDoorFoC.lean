/-
  The model's functions that give a diagram of a table: a bit set.
-/
import Derived.Test.YthdofdglbdfkkaaDoorRows
import Derived.Test.YthdofdglbdfkkaaDoorG0
import Derived.Test.YthdofdglbdfkkaaDoorPaA
import Derived.Test.YthdofdglbdfkkaaDoorBdT
import Derived.Test.YthdofdglbdfkkaaDoorBdE
import Derived.Test.YthdofdglbdfkkaaDoorFoN
import Derived.Test.YthdofdglbdfkkaaDoorFoO
import Derived.Test.YthdofdglbdfkkaaDoorFoZ
import Derived.WalkKit
import Derived.ProofKit
import Derived.OpenShut
import Derived.WalkSpells
import Derived.WalkLawsBesides
import Derived.Outline
import Derived.BigQuiet
import Derived.Handy
import Derived.LoopTactic
import Derived.Deep.Light
import Derived.Deep.RegionWith
import Derived.Deep.RegionHeld3
import Derived.Deep.DeepCutAuto
import Derived.Lib.Hide
import Derived.Maps.OwnRows
import Derived.Deep.Onto
import Derived.OneCell
import Derived.StillTailTactics
import Derived.Deep.AppendLies
import Derived.Deep.RegionLaw
namespace Go.Proofs.YthdofdglbdfkkaaDoor
open Go.ChangeShapes Go.WideShapes Go.ChangeAt Go.RowKit Go.Maps Go.ChangeMaps
set_option linter.unusedVariables false
set_option maxRecDepth 100000

theorem fix_facts {i c : Int} {yes : Bool} (h0 : 0 ≤ i) (h1 : i < 13) (hc : 0 ≤ c) (hc1 : c ≤ 8192) :
    ∃ y z D : Int, ((yes.toNat : Nat) : Int) = y ∧ c / 2 ^ i.toNat % 2 = z ∧ fixc i yes c = c + D ∧ 0 ≤ y ∧ y ≤ 1 ∧ 0 ≤ z ∧ z ≤ 1 ∧ (y - z) * 2 ^ i.toNat = D ∧ -8192 ≤ D ∧ D ≤ 8192 ∧ 0 ≤ c + D := by
  have hp := pow_pos' i.toNat
  have hp13 : (2 : Int) ^ i.toNat ≤ 8192 := by
    have h2 : (2 : Nat) ^ i.toNat ≤ 2 ^ 13 := Nat.pow_le_pow_right (by decide) (by omega)
    have h3 : ((2 ^ i.toNat : Nat) : Int) ≤ ((2 ^ 13 : Nat) : Int) := Int.ofNat_le.2 h2
    simpa using h3
  have hy : bI yes = ((yes.toNat : Nat) : Int) := by cases yes <;> rfl
  have hz : bitN c i = c / 2 ^ i.toNat % 2 := rfl
  have hf : fixc i yes c = c + (bI yes - bitN c i) * 2 ^ i.toNat := by unfold fixc; rw [if_neg (by omega)]
  rw [hy, hz] at hf
  have hy01 : ((yes.toNat : Nat) : Int) = 0 ∨ ((yes.toNat : Nat) : Int) = 1 := by cases yes; exact .inl rfl; exact .inr rfl
  generalize ((yes.toNat : Nat) : Int) = y at hf hy01
  have hz01 : c / 2 ^ i.toNat % 2 = 0 ∨ c / 2 ^ i.toNat % 2 = 1 := by omega
  have hge : c / 2 ^ i.toNat % 2 = 1 → 2 ^ i.toNat ≤ c := fun e => by
    rcases Int.lt_or_le c (2 ^ i.toNat) with h | h
    · rw [Int.ediv_eq_zero_of_lt hc h] at e; simp at e
    · exact h
  generalize c / 2 ^ i.toNat % 2 = z at hf hz01 hge
  generalize (2 : Int) ^ i.toNat = p at hf hp hp13 hge
  refine ⟨y, z, (y - z) * p, rfl, rfl, hf, by omega, by omega, by omega, by omega, rfl, ?_, ?_, ?_⟩ <;>
    rcases hy01 with rfl | rfl <;> rcases hz01 with rfl | rfl <;> simp <;> first | omega | (have := hge rfl; omega)
theorem c_l1YesY {y : Int} (b : Bool) (hy : ((b.toNat : Nat) : Int) = y) (w : World) : Calls Tryd.prog 87 #[.bool b] w fun e w' => e = .returned (.int .i64 y) ∧ w' = w := by
  subst hy; exact c_l1Yes b w
theorem c_l1BitZ {z : Int} (a i : Int) (h0 : 0 ≤ a) (h1 : 0 ≤ i) (h2 : i ≤ 16) (hz : a / 2 ^ i.toNat % 2 = z) (w : World) : Calls Tryd.prog 82 #[.int .i64 a, .int .i64 i] w fun e w' => e = .returned (.int .i64 z) ∧ w' = w := by
  subst hz; exact c_l1Bit a i h0 h1 h2 w

set_option maxHeartbeats 8000000 in
theorem c_BddFixS {B : Nat} {a1 : Option Addr} {len1 cap1 : Nat} {ns1 : List BN} (V1 r1 : Int) (i : Int) (yes : Bool) (w : World) (hBw : B ≤ w.heap.size) (hn1 : BnsAt B w a1 len1 cap1 ns1) :
    Calls Tryd.prog 57 #[.agg #[.int .i64 V1, .slice a1 len1 cap1, .int .i64 r1], .int .i64 i, .bool yes] w (BddQ (CondR (OkB V1 ns1 r1 ∧ 0 ≤ i ∧ i < V1) V1 (fun c => evF ns1 r1 (fixc i yes c))) w) := by
  have HN1 := Go.Lib.hid hn1
  clear hn1
  go_enter Tryd.func57, Tryd.ntmps57
  go_upto_region 1 with fail
  refine code_gen (R := fun wb => wb.heap[w.heap.size]? = some (.cells #[.int .i64 V1, .slice a1 len1 cap1, .int .i64 r1] 25 (0, 0)) ∧ wb.heap[w.heap.size + 1]? = some (.cells #[.int .i64 0, .slice none 0 0, .int .i64 0] 25 (0, 0)) ∧ Below w.heap.size w wb) ⟨(al2 _ _ _).1, (al2 _ _ _).2, by go_grown⟩ ?_
  rintro w0 ⟨k0, k1, hb0⟩
  have K0_0 := Go.Lib.hid k0
  have K1_0 := Go.Lib.hid k1
  have B_0 := Go.Lib.hid hb0
  have N1_0 := Go.Lib.hid (HN1.out.below (hb0.mono hBw))
  have hB_0 : B ≤ w0.heap.size := Nat.le_trans hBw hb0.size
  clear k0 k1 hb0
  have x00 := cell_of_block (i := 0) K0_0.out (v := .int .i64 V1) rfl
  have x01 := cell_of_block (i := 1) K0_0.out (v := .slice a1 len1 cap1) rfl
  have x02 := cell_of_block (i := 2) K0_0.out (v := .int .i64 r1) rfl
  go_wp2_with fail
  refine (c_BddOkS (B := B) V1 r1 w0 hB_0 N1_0.out).mono ?_
  rintro e w1 ⟨hb, hq⟩
  have K0_1 := Go.Lib.hid (blk_keep K0_0.out hq)
  have K1_1 := Go.Lib.hid (blk_keep K1_0.out hq)
  have B_1 := Go.Lib.hid (B_0.out.trans (hq.mono B_0.out.size))
  have N1_1 := Go.Lib.hid (N1_0.out.below (hq.mono hB_0))
  have hB_1 : B ≤ w1.heap.size := Nat.le_trans hB_0 hq.size
  clear hq x00 x01 x02
  by_cases ho : OkB V1 ns1 r1
  rotate_left
  · obtain rfl := boolIs_f ho hb
    have HO := Go.Lib.hid ho
    clear ho hb
    have z0 := cell_of_block (i := 0) K1_1.out (v := .int .i64 0) rfl
    have f0 := free_of_block (i := 0) K1_1.out
    have z1 := cell_of_block (i := 1) K1_1.out (v := .slice none 0 0) rfl
    have f1 := free_of_block (i := 1) K1_1.out
    have z2 := cell_of_block (i := 2) K1_1.out (v := .int .i64 0) rfl
    have f2 := free_of_block (i := 2) K1_1.out
    go_wp2_with fail
    refine bodyPost_ret (v := .tuple #[.agg #[.int .i64 0, .slice none 0 0, .int .i64 0], .bool false]) (results_cell_q (p := 6) (q := 7) rfl _ _ (w.heap.size + 1) 25 _ (0, 0) _ rfl rfl (heap_setCell_same _ _ 2 _ _ _ (heap_setCell_same _ _ 1 _ _ _ (heap_setCell_same _ _ 0 _ _ _ K1_1.out))) Tryd.underlying25 rfl (by kernel_rfl)) rfl ⟨_, _, _, _, [], rfl, OwnN.nil _ _, .inr ⟨(fun h => HO.out h.1), rfl, rfl, rfl, rfl⟩, ?_⟩
    exact (((B_1.out).setCell (p := ⟨w.heap.size + 1, 0, none⟩) (Nat.le_add_right _ _) _).setCell (p := ⟨w.heap.size + 1, 1, none⟩) (Nat.le_add_right _ _) _).setCell (p := ⟨w.heap.size + 1, 2, none⟩) (Nat.le_add_right _ _) _
  obtain rfl := boolIs_t ho hb
  have HO1 := Go.Lib.hid ho
  clear ho hb
  have hv13 := HO1.out.hv
  have x00 := cell_of_block (i := 0) K0_1.out (v := .int .i64 V1) rfl
  have x01 := cell_of_block (i := 1) K0_1.out (v := .slice a1 len1 cap1) rfl
  have x02 := cell_of_block (i := 2) K0_1.out (v := .int .i64 r1) rfl
  have hw1 : wrap64 (V1 - 1) = V1 - 1 := IntWalk.wrap64_in _ (by omega)
  have HT := Go.Lib.hid (c_l1In i 0 (V1 - 1) w1)
  cases hb : (decide (0 ≤ i) && decide (i ≤ V1 - 1)) with
  | false =>
    have HBB := Go.Lib.hid hb
    rw [hb] at HT
    clear hb
    go_wp2_with fail
    refine HT.out.mono ?_
    rintro e w2 ⟨rfl, hw⟩
    cases hw
    have z0 := cell_of_block (i := 0) K1_1.out (v := .int .i64 0) rfl
    have f0 := free_of_block (i := 0) K1_1.out
    have z1 := cell_of_block (i := 1) K1_1.out (v := .slice none 0 0) rfl
    have f1 := free_of_block (i := 1) K1_1.out
    have z2 := cell_of_block (i := 2) K1_1.out (v := .int .i64 0) rfl
    have f2 := free_of_block (i := 2) K1_1.out
    go_wp2_with fail
    refine bodyPost_ret (v := .tuple #[.agg #[.int .i64 0, .slice none 0 0, .int .i64 0], .bool false]) (results_cell_q (p := 6) (q := 7) rfl _ _ (w.heap.size + 1) 25 _ (0, 0) _ rfl rfl (heap_setCell_same _ _ 2 _ _ _ (heap_setCell_same _ _ 1 _ _ _ (heap_setCell_same _ _ 0 _ _ _ K1_1.out))) Tryd.underlying25 rfl (by kernel_rfl)) rfl ⟨_, _, _, _, [], rfl, OwnN.nil _ _, .inr ⟨(fun h => by have h1 := HBB.out; have h2 := h.2; simp at h1; omega), rfl, rfl, rfl, rfl⟩, ?_⟩
    exact (((B_1.out).setCell (p := ⟨w.heap.size + 1, 0, none⟩) (Nat.le_add_right _ _) _).setCell (p := ⟨w.heap.size + 1, 1, none⟩) (Nat.le_add_right _ _) _).setCell (p := ⟨w.heap.size + 1, 2, none⟩) (Nat.le_add_right _ _) _
  | true =>
    have HBB := Go.Lib.hid (show 0 ≤ i ∧ i < V1 by simp at hb; omega)
    have hi0 := HBB.out.1
    have hi13 : i < 13 := by have := HBB.out.2; omega
    rw [hb] at HT
    clear hb
    go_wp2_with fail
    refine HT.out.mono ?_
    rintro e w2 ⟨rfl, hw⟩
    cases hw
    clear hw1 hv13
    have K0_m := Go.Lib.hid K0_1.out
    have K1_m := Go.Lib.hid K1_1.out
    have hB_m := hB_1
    have N1_m := Go.Lib.hid N1_1.out
    obtain ⟨tl, htl⟩ : ∃ tl : Nat, (tl : Int) = 2 ^ (V1).toNat := ⟨2 ^ (V1).toNat, by simp⟩
    have hw2 : wrap64 (2 ^ min (IntKind.u64.wrap (V1)).toNat 64) = (tl : Int) := by
      have hv13 := HO1.out.hv
      rw [IntWalk.u64_in _ (by omega), Nat.min_eq_left (by omega), wrap_p2 (by omega)]; exact htl.symm
    have htl8 : tl ≤ 8192 := by have h1 := p2_13 HO1.out.hv.1 HO1.out.hv.2; omega
    have HTL := Go.Lib.hid htl
    obtain ⟨i0, hif0, hz0, hz1, hz2⟩ := info_parts boolInfo
    obtain ⟨w9, hrun, hown, hgrow⟩ := run_make_full (P := Tryd.prog) w1 w1.heap.size 64 4 i0 _ 1 Tryd.underlying64 hif0 hz0 hz1 .i64 .i64 tl (by rw [hz2]; omega) (by unfold maxLen; omega) (Nat.le_refl _)
    have HC9 := Go.Lib.hid (tab_made (ns := TBf tl (fun c => evF ns1 r1 (fixc i yes c))) hown hgrow)
    clear hif0 hz0 hz1 hz2 hown hgrow htl
    go_wp2_with fail
    clear hrun x00 x01 x02 hw2
    go_loopw [9] (fun q wr => ∃ j : Nat, j ≤ tl ∧ q = .int .i64 j ∧ CopiedR boolCells 1 (TBf tl (fun c => evF ns1 r1 (fixc i yes c))) tl w1 (.int .i64 (j : Int)) wr) (fun q _ => tl - (intOf q).toNat)
    case atStart => exact ⟨0, by omega, rfl, HC9.out⟩
    case round =>
      obtain ⟨j, hj, rfl, hcr⟩ := hrel
      have C_wr := Go.Lib.hid hcr
      have H_wr := Go.Lib.hid (copied_bel C_wr.out)
      clear hcr
      by_cases hjl : j < tl
      · have hji : (j : Int) < tl := by omega
        obtain ⟨y, z, D, hy, hz, hD, y0, y1, z0, z1, hyz, d0, d1, hD0⟩ := fix_facts (c := (j : Int)) (yes := yes) hi0 hi13 (by omega) (by omega)
        have HY := Go.Lib.hid hy
        have HZ := Go.Lib.hid hz
        have HD := Go.Lib.hid hD
        clear hy hz hD
        have hs1 : wrap64 (y - z) = y - z := IntWalk.wrap64_in _ (by omega)
        have hs2 : wrap64 ((y - z) * 2 ^ min (IntKind.u64.wrap i).toNat 64) = D := by
          rw [IntWalk.u64_in _ (by omega), Nat.min_eq_left (by omega), hyz]; exact IntWalk.wrap64_in _ (by omega)
        have hs3 : wrap64 ((j : Int) + D) = (j : Int) + D := IntWalk.wrap64_in _ (by omega)
        have hs5 : IntKind.i64.wrap ((j : Int) + IntKind.i64.wrap (IntKind.i64.wrap (y - z) * 2 ^ min (IntKind.u64.wrap i).toNat 64)) = (j : Int) + D := by
          rw [IntWalk.i64_left, IntWalk.i64_left, IntWalk.i64_left, hs1, hs2, hs3]
        have HS5 := Go.Lib.hid hs5
        clear hs1 hs2 hs3 hs5
        obtain ⟨e1, he1⟩ : ∃ b, evF ns1 r1 ((j : Int) + D) = b := ⟨_, rfl⟩
        have E1 := Go.Lib.hid he1
        clear he1 hyz
        have y00 := keepc H_wr.out (blk_lt K0_m.out) (cell_of_block (i := 0) K0_m.out (v := .int .i64 V1) rfl)
        have y01 := keepc H_wr.out (blk_lt K0_m.out) (cell_of_block (i := 1) K0_m.out (v := .slice a1 len1 cap1) rfl)
        have y02 := keepc H_wr.out (blk_lt K0_m.out) (cell_of_block (i := 2) K0_m.out (v := .int .i64 r1) rfl)
        have ln0 : w.heap.size ≠ w1.heap.size := Nat.ne_of_lt (blk_lt K0_m.out)
        have l0 : w.heap.size < wr.heap.size := Nat.lt_of_lt_of_le (blk_lt K0_m.out) H_wr.out.size
        go_upto_region 7 with fail
        refine wp_region_held_drew (S := (fun w' => w'.cell? ⟨w.heap.size, 0, none⟩ = some (.int .i64 V1) ∧ w'.cell? ⟨w.heap.size, 1, none⟩ = some (.slice a1 len1 cap1) ∧ w'.cell? ⟨w.heap.size, 2, none⟩ = some (.int .i64 r1))) (by kernel_rfl) ?_ (fun hHeld => ?_)
        · first | exact ⟨y00, y01, y02⟩ | exact ⟨kc HQ.out l0 y00, kc HQ.out l0 y01, kc HQ.out l0 y02⟩ | exact ⟨cell_set (kc HQ.out l0 y00) ln0, cell_set (kc HQ.out l0 y01) ln0, cell_set (kc HQ.out l0 y02) ln0⟩
        refine tL 0 (some 33) ?_
        refine tL 1 (some 34) ?_
        refine tL 2 (some 35) ?_
        refine tL 3 (some 36) ?_
        refine tL 4 (some 37) ?_
        refine tL 6 (some 39) ?_
        refine tL 7 (some 40) ?_
        refine tL 10 (some 43) ?_
        refine tL 11 (some 44) ?_
        refine wpAnyH_ready (rs := [5]) (by kernel_rfl) (by simp) ?_
        refine AllReadyH.cons (o := _) rfl (fun K hK => ?_) AllReadyH.nil
        go_simp
        refine (c_l1YesY yes HY.out _).mono ?_
        rintro e wy ⟨rfl, hwy⟩
        cases hwy
        (try go_wp2_with fail)
        (try clear hHeld)
        refine hK.out _ _ ?_ (fun hHeld => ?_)
        · first | exact ⟨y00, y01, y02⟩ | exact ⟨kc HQ.out l0 y00, kc HQ.out l0 y01, kc HQ.out l0 y02⟩ | exact ⟨cell_set (kc HQ.out l0 y00) ln0, cell_set (kc HQ.out l0 y01) ln0, cell_set (kc HQ.out l0 y02) ln0⟩
        clear hK K
        (try simp only [Act.put, List.setIfInBounds_toArray, List.set_cons_zero, List.set_cons_succ])
        refine wpAnyH_ready (rs := [8]) (by kernel_rfl) (by simp) ?_
        refine AllReadyH.cons (o := _) rfl (fun K hK => ?_) AllReadyH.nil
        go_simp
        refine (c_l1BitZ (j : Int) i (by omega) hi0 (by omega) HZ.out _).mono ?_
        rintro e wz ⟨rfl, hwz⟩
        cases hwz
        (try go_wp2_with fail)
        (try clear hHeld)
        refine hK.out _ _ ?_ (fun hHeld => ?_)
        · first | exact ⟨y00, y01, y02⟩ | exact ⟨kc HQ.out l0 y00, kc HQ.out l0 y01, kc HQ.out l0 y02⟩ | exact ⟨cell_set (kc HQ.out l0 y00) ln0, cell_set (kc HQ.out l0 y01) ln0, cell_set (kc HQ.out l0 y02) ln0⟩
        clear hK K
        (try simp only [Act.put, List.setIfInBounds_toArray, List.set_cons_zero, List.set_cons_succ])
        refine tL 9 (some 42) ?_
        refine tL 12 (some 45) ?_
        refine tL 13 (some 46) ?_
        refine wpAnyH_ready (rs := [14]) (by kernel_rfl) (by simp) ?_
        refine AllReadyH.cons (o := _) rfl (fun K hK => ?_) AllReadyH.nil
        go_simp
        simp only [HS5.out]
        refine (c_l7HasF (B := B) V1 r1 ((j : Int) + D) wr.drew (Nat.le_trans hB_m H_wr.out.size) ((N1_m.out.below (H_wr.out.mono hB_m)).below (Below.refl B wr).drew) HO1.out (by omega)).mono ?_
        rintro e wa ⟨he, hq⟩
        rw [E1.out] at he
        subst he
        have hq' : Below wr.heap.size wr wa := ⟨hq.os, hq.tape, hq.output, hq.size, hq.block⟩
        have C_wa := Go.Lib.hid (copied_below C_wr.out hq')
        have H_wa := Go.Lib.hid (copied_bel C_wa.out)
        have HQ := Go.Lib.hid hq'
        clear hq hq'
        obtain ⟨⟨v0, d0'⟩, f0⟩ := tab_at C_wa.out hjl
        (try go_wp2_with fail)
        (try clear hHeld)
        refine hK.out _ _ ?_ (fun hHeld => ?_)
        · first | exact ⟨y00, y01, y02⟩ | exact ⟨kc HQ.out l0 y00, kc HQ.out l0 y01, kc HQ.out l0 y02⟩ | exact ⟨cell_set (kc HQ.out l0 y00) ln0, cell_set (kc HQ.out l0 y01) ln0, cell_set (kc HQ.out l0 y02) ln0⟩
        clear hK K
        (try simp only [Act.put, List.setIfInBounds_toArray, List.set_cons_zero, List.set_cons_succ])
        refine tL 15 (some 48) ?_
        refine wpAnyH_ready (rs := [16]) (by kernel_rfl) (by simp) ?_
        refine AllReadyH.cons (o := _) rfl (fun K hK => ?_) AllReadyH.nil
        go_simp
        (try clear hHeld)
        refine hK.out _ _ ?_ (fun hHeld => ?_)
        · first | exact ⟨y00, y01, y02⟩ | exact ⟨kc HQ.out l0 y00, kc HQ.out l0 y01, kc HQ.out l0 y02⟩ | exact ⟨cell_set (kc HQ.out l0 y00) ln0, cell_set (kc HQ.out l0 y01) ln0, cell_set (kc HQ.out l0 y02) ln0⟩
        clear hK K
        (try simp only [Act.put, List.setIfInBounds_toArray, List.set_cons_zero, List.set_cons_succ])
        refine wpAnyH_done (by kernel_rfl) ?_ _
        clear hHeld
        have HN := Go.Lib.hid (tab_next C_wa.out hjl (b := e1) (by show _ = evF ns1 r1 (fixc i yes (j : Int)); rw [HD.out, E1.out]))
        go_wp2_with fail
        go_roundw
        case rel => exact ⟨j + 1, by omega, by go_num, HN.out⟩
        case measure => simp [intOf]; omega
      · have hji : ¬ (j : Int) < tl := by omega
        have HBO := Go.Lib.hid (tab_bools C_wr.out hjl htl8)
        have y00 := keepc H_wr.out (blk_lt K0_m.out) (cell_of_block (i := 0) K0_m.out (v := .int .i64 V1) rfl)
        have y01 := keepc H_wr.out (blk_lt K0_m.out) (cell_of_block (i := 1) K0_m.out (v := .slice a1 len1 cap1) rfl)
        have y02 := keepc H_wr.out (blk_lt K0_m.out) (cell_of_block (i := 2) K0_m.out (v := .int .i64 r1) rfl)
        have K1_e := Go.Lib.hid (blk_keep K1_m.out H_wr.out)
        have B_e := Go.Lib.hid (B_1.out.trans (H_wr.out.mono B_1.out.size))
        go_wp2_with fail
        refine (c_l7Of (B := wr.heap.size) HO1.out.hv.1 HO1.out.hv.2 HTL.out wr (Nat.le_refl _) HBO.out).mono ?_
        rintro e wf ⟨x, V, R, bb, ms, rfl, hown, hrel, hq⟩
        have K1_f := Go.Lib.hid (blk_keep K1_e.out hq)
        have B_f := Go.Lib.hid (B_e.out.trans (hq.mono B_e.out.size))
        have HKL := Go.Lib.hid (blk_lt K1_e.out)
        have HOW := Go.Lib.hid hown
        have HREL := Go.Lib.hid hrel
        obtain ⟨xa, xc, rfl, -⟩ := OwnN.form hown
        clear hown hrel hq
        have z0 := cell_of_block (i := 0) K1_f.out (v := .int .i64 0) rfl
        have f0 := free_of_block (i := 0) K1_f.out
        have z1 := cell_of_block (i := 1) K1_f.out (v := .slice none 0 0) rfl
        have f1 := free_of_block (i := 1) K1_f.out
        have z2 := cell_of_block (i := 2) K1_f.out (v := .int .i64 0) rfl
        have f2 := free_of_block (i := 2) K1_f.out
        go_wp2_with fail
        refine bodyPost_ret (v := .tuple #[.agg #[.int .i64 V, .slice xa ms.length xc, .int .i64 R], .bool bb]) (results_cell_q (p := 6) (q := 7) rfl _ _ (w.heap.size + 1) 25 _ (0, 0) _ rfl rfl (heap_setCell_same _ _ 2 _ _ _ (heap_setCell_same _ _ 1 _ _ _ (heap_setCell_same _ _ 0 _ _ _ K1_f.out))) Tryd.underlying25 rfl (by kernel_rfl)) rfl ⟨_, _, _, _, ms, rfl, ?_, .inl ⟨⟨HO1.out, HBB.out⟩, HREL.out.congr (fun c h0 h1 => tabF_TBf h0 (by have := HTL.out; omega))⟩, ?_⟩
        · exact OwnN.mono (OwnN.block HOW.out (fun y h1 _ _ => by have h2 := HKL.out; rw [heap_setCell_other _ _ _ _ (by show y ≠ w.heap.size + 1; omega), heap_setCell_other _ _ _ _ (by show y ≠ w.heap.size + 1; omega), heap_setCell_other _ _ _ _ (by show y ≠ w.heap.size + 1; omega)])) B_e.out.size
        · exact (((B_f.out).setCell (p := ⟨w.heap.size + 1, 0, none⟩) (Nat.le_add_right _ _) _).setCell (p := ⟨w.heap.size + 1, 1, none⟩) (Nat.le_add_right _ _) _).setCell (p := ⟨w.heap.size + 1, 2, none⟩) (Nat.le_add_right _ _) _
end Go.Proofs.YthdofdglbdfkkaaDoor
