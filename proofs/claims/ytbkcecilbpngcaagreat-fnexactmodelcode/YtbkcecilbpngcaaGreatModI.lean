/-
  Whether a node is fixed, whether a bind is right: the model.
-/
import Derived.Test.YtbkcecilbpngcaaGreatRows
import Derived.Test.YtbkcecilbpngcaaGreatPaA
import Derived.Test.YtbkcecilbpngcaaGreatNodeM
import Derived.Test.YtbkcecilbpngcaaGreatNames
import Derived.Test.YtbkcecilbpngcaaGreatNodeL
import Derived.Test.YtbkcecilbpngcaaGreatResP
import Derived.Test.YtbkcecilbpngcaaGreatModD
import Derived.Test.YtbkcecilbpngcaaGreatModA
import Derived.Test.YtbkcecilbpngcaaGreatModB
import Derived.Test.YtbkcecilbpngcaaGreatModE
import Derived.Test.YtbkcecilbpngcaaGreatModF
import Derived.Test.YtbkcecilbpngcaaGreatModG
import Derived.Test.YtbkcecilbpngcaaGreatModH
import Derived.WalkKit
import Derived.ProofKit
import Derived.OpenShut
import Derived.WalkSpells
import Derived.WalkLawsBesides
import Derived.Outline
import Derived.BigQuiet
import Derived.Handy
import Derived.LoopTactic
import Derived.Deep.Light
import Derived.Deep.RegionWith
import Derived.Deep.RegionHeld3
import Derived.Deep.DeepCutAuto
import Derived.Lib.Hide
import Derived.Deep.OwnRows
namespace Go.Proofs.YtbkcecilbpngcaaGreat
open Go.ChangeShapes Go.WideShapes Go.ChangeAt Go.RowKit
set_option linter.unusedVariables false
set_option maxRecDepth 100000


theorem q_l1In_t (n lo hi : Int) (h1 : lo ≤ n) (h2 : n ≤ hi) (w : World) : Calls Tryz.prog 59 #[.int .i64 n, .int .i64 lo, .int .i64 hi] w fun e w' => e = .returned (.bool true) ∧ w' = w := (c_l1In_t n lo hi h1 h2 w).mono fun e w' ⟨a, b⟩ => ⟨a, b.symm⟩
theorem q_l1In_f (n lo hi : Int) (h : n < lo ∨ hi < n) (w : World) : Calls Tryz.prog 59 #[.int .i64 n, .int .i64 lo, .int .i64 hi] w fun e w' => e = .returned (.bool false) ∧ w' = w := (c_l1In_f n lo hi h w).mono fun e w' ⟨a, b⟩ => ⟨a, b.symm⟩
theorem node_kind {B : Nat} {w : World} {a : Option Addr} {len cap q : Nat} {ns : List ND} (h : NodesAt B w a len cap ns) (hk : q < len) :
    ∃ (kd : Int) (b off : Nat), (ns.getD q default).kind = kd ∧ a = some ⟨b, off, none⟩ ∧ b < B ∧ w.cell? ⟨b, off + q * 9, none⟩ = some (.int .i64 kd) := by
  obtain ⟨nd, b, off, hnd, hok, ha, hbB, hc⟩ := node_at' h hk
  exact ⟨nd.kind, b, off, by rw [hnd], ha, hbB, hc 0 (by decide)⟩

set_option maxHeartbeats 8000000 in
theorem c_l2Fixed {B : Nat} {s0 s1 s2 s3 s4 : SL} {M : MD} (at_ : Nat) (w : World) (hBw : B ≤ w.heap.size) (h : ModelAt B w s0 s1 s2 s3 s4 M) (hg : nodesGood M.ns) (h60 : s0.len ≤ 60) (ha : at_ < s0.len) :
    Calls Tryz.prog 62 #[.agg (mcells s0 s1 s2 s3 s4).toArray, .int .i64 at_] w fun e w' => BoolIs (fixedN M.ns at_) e ∧ Below w.heap.size w w' := by
  have HN := Go.Lib.hid h.ns
  have hl0 : M.ns.length = s0.len := h.ns.1
  have HGD := Go.Lib.hid hg
  clear h hg
  obtain ⟨a0, l0, p0⟩ := s0
  simp only [mcells] at *
  go_enter Tryz.func62, Tryz.ntmps62
  go_wp2_with fail
  have hb0 := Boxed.new ⟨a0, l0, p0⟩ s1 s2 s3 s4 w 32
  have HX0 := Go.Lib.hid hb0
  have hBn := hb0.2.2.2.2.2.2
  have hlt0 := hb0.1
  clear hb0
  refine (c_l2Made at_ _ (Nat.le_trans hBw (Nat.le_of_lt hlt0)) ((HN.out.rows.below (hBn.mono hBw)).nodes) HGD.out h60 ha).mono ?_
  rintro e w1 ⟨rfl, ⟨s, hset, hsm⟩, hB1⟩
  rw [show (w.alloc (.cells #[.slice a0 l0 p0, .slice s1.a s1.len s1.cap, .slice s2.a s2.len s2.cap, .slice s3.a s3.len s3.cap, .slice s4.a s4.len s4.cap] 32)).heap.size = w.heap.size + 1 by simp] at hset
  have HX1 := Go.Lib.hid (HX0.out.below hB1)
  have hb1 := HX1.out
  obtain ⟨hlt, b0, -, -, -, -, hBw1⟩ := hb1
  have HB := Go.Lib.hid hBw1
  have HS := Go.Lib.hid hset
  have HM := Go.Lib.hid hsm
  clear hBw1 hset hsm hB1 HX0 hBn hlt0
  go_wp2_with fail
  go_loopw [6] (fun i wr => ∃ k : Nat, k ≤ at_ + 1 ∧ i = .int .i64 k ∧ wr = w1 ∧ ∀ j, j < k → s j = true → ¬ ((M.ns.getD j default).kind = 36 ∨ (M.ns.getD j default).kind = 35)) (fun i _ => at_ + 1 - (intOf i).toNat)
  case atStart => exact ⟨0, by omega, rfl, rfl, fun j hj => by omega⟩
  case round =>
    obtain ⟨k, hk, rfl, rfl, hno⟩ := hrel
    have HNO := Go.Lib.hid hno
    clear hno
    by_cases hka : k < at_ + 1
    · have hki : (k : Int) ≤ at_ := by omega
      have hkl : k < l0 := by omega
      have hkl' : (k : Int) < l0 := by omega
      have y0 := World.rowIs.cell HS.out hkl
      have hgl := World.rowIs.lt HS.out
      obtain ⟨kd, b, off, hkd, rfl, hbB, c0⟩ := node_kind ((HN.out.rows.below (HB.out.mono hBw)).nodes) hkl
      have HKD := Go.Lib.hid hkd
      clear hkd
      cases hs : s k with
      | false =>
        rw [hs] at y0
        go_wp2_with fail
        go_roundw
        case rel => exact ⟨k + 1, by omega, by go_num, by trivial, fun j hj hsj => by
            rcases Nat.lt_or_ge j k with h | h
            · exact HNO.out j h hsj
            · obtain rfl : j = k := by omega
              rw [hs] at hsj; cases hsj⟩
        case measure => simp [intOf] <;> omega
      | true =>
        rw [hs] at y0
        by_cases h36 : kd = 36
        · have q1 : (kd == 36) = true := by simpa using h36
          go_wp2_with fail
          go_ret
          exact ⟨BoolIs.no (fun hf => hf k ((HM.out k).1 hs) (.inl (HKD.out.trans h36))), HB.out⟩
        · have q1 : (kd == 36) = false := by simpa using h36
          by_cases h35 : kd = 35
          · have q2 : (kd == 35) = true := by simpa using h35
            go_wp2_with fail
            go_ret
            exact ⟨BoolIs.no (fun hf => hf k ((HM.out k).1 hs) (.inr (HKD.out.trans h35))), HB.out⟩
          · have q2 : (kd == 35) = false := by simpa using h35
            go_wp2_with fail
            go_roundw
            case rel => exact ⟨k + 1, by omega, by go_num, by trivial, fun j hj hsj => by
                rcases Nat.lt_or_ge j k with h | h
                · exact HNO.out j h hsj
                · obtain rfl : j = k := by omega
                  rw [HKD.out]; rintro (h | h); exact h36 h; exact h35 h⟩
            case measure => simp [intOf] <;> omega
    · have hki : ¬ (k : Int) ≤ at_ := by omega
      go_wp2_with fail
      go_ret
      exact ⟨BoolIs.yes (fun j hm => HNO.out j (by have := hm.le HGD.out (by omega); omega) ((HM.out j).2 hm)), HB.out⟩

/-- A bind of a state and a node of its sort. -/
def boundN (ns : List ND) (b : BD) : Prop := (0 ≤ b.st ∧ b.st < ns.length) ∧ (0 ≤ b.nd ∧ b.nd < ns.length) ∧ (ns.getD b.st.toNat default).kind = 36 ∧ sortAt ns b.st = sortAt ns b.nd
theorem keep8 {g b o o2 : Nat} {v0 v1 v2 v3 v4 v5 v6 v7 : Value} {w w' : World} (hb : Below w.heap.size w w') (hl : g < w.heap.size) (hl1 : g + 1 < w.heap.size) (hl2 : b < w.heap.size) (y0 : w.cell? ⟨g, 0, none⟩ = some v0) (y1 : w.cell? ⟨g + 1, 0, none⟩ = some v1) (y2 : w.cell? ⟨g + 1, 1, none⟩ = some v2) (y3 : w.cell? ⟨b, o, none⟩ = some v3) (y4 : w.cell? ⟨b, o + 6, none⟩ = some v4) (y5 : w.cell? ⟨b, o + 7, none⟩ = some v5) (y6 : w.cell? ⟨b, o2 + 6, none⟩ = some v6) (y7 : w.cell? ⟨b, o2 + 7, none⟩ = some v7) :
    w'.cell? ⟨g, 0, none⟩ = some v0 ∧ w'.cell? ⟨g + 1, 0, none⟩ = some v1 ∧ w'.cell? ⟨g + 1, 1, none⟩ = some v2 ∧ w'.cell? ⟨b, o, none⟩ = some v3 ∧ w'.cell? ⟨b, o + 6, none⟩ = some v4 ∧ w'.cell? ⟨b, o + 7, none⟩ = some v5 ∧ w'.cell? ⟨b, o2 + 6, none⟩ = some v6 ∧ w'.cell? ⟨b, o2 + 7, none⟩ = some v7 :=
  ⟨keepc hb hl y0, keepc hb hl1 y1, keepc hb hl1 y2, keepc hb hl2 y3, keepc hb hl2 y4, keepc hb hl2 y5, keepc hb hl2 y6, keepc hb hl2 y7⟩
set_option maxHeartbeats 8000000 in
theorem c_l2Bound {B : Nat} {s0 s1 s2 s3 s4 : SL} {M : MD} (bd : BD) (w : World) (hBw : B ≤ w.heap.size) (h : ModelAt B w s0 s1 s2 s3 s4 M) :
    Calls Tryz.prog 61 #[.agg (mcells s0 s1 s2 s3 s4).toArray, .agg bd.cells.toArray] w fun e w' => BoolIs (boundN M.ns bd) e ∧ Below w.heap.size w w' := by
  have HN := Go.Lib.hid h.ns
  have hl0 : M.ns.length = s0.len := h.ns.1
  have hm := Nat.le_trans h.ns.2.1 h.ns.2.2.1
  unfold maxLen at hm
  clear h
  obtain ⟨a0, l0, p0⟩ := s0
  obtain ⟨st, nd⟩ := bd
  simp only [mcells, BD.cells] at *
  have hwl : wrap64 ((l0 : Int) - 1) = (l0 : Int) - 1 := IntWalk.wrap64_in _ (by omega)
  have hwl2 : IntKind.i64.wrap ((l0 : Int) - 1) = (l0 : Int) - 1 := (IntWalk.i64_left _).trans hwl
  by_cases hs : st < 0 ∨ (l0 : Int) - 1 < st
  · have HNB := Go.Lib.hid (show ¬ boundN M.ns ⟨st, nd⟩ from fun hb => by have h1 := hb.1.1; have h2 := hb.1.2; simp only at h1 h2; omega)
    go_enter Tryz.func61, Tryz.ntmps61
    go_wp2_with fail
    refine code_gen (R := fun wb => wb.cell? ⟨w.heap.size, 0, none⟩ = some (.slice a0 l0 p0) ∧ wb.cell? ⟨w.heap.size + 1, 0, none⟩ = some (.int .i64 st) ∧ wb.cell? ⟨w.heap.size + 1, 1, none⟩ = some (.int .i64 nd) ∧ Below w.heap.size w wb ∧ w.heap.size + 1 < wb.heap.size) ⟨by simp, by simp, by simp, by go_grown, by simp⟩ ?_
    rintro wb ⟨z0, z1, z2, hBw2, hsz⟩
    have HBW := Go.Lib.hid hBw2
    clear hBw2
    refine wp_region_held_drew (S := (fun w' => w'.cell? ⟨w.heap.size, 0, none⟩ = some (.slice a0 l0 p0) ∧ w'.cell? ⟨w.heap.size + 1, 0, none⟩ = some (.int .i64 st) ∧ w'.cell? ⟨w.heap.size + 1, 1, none⟩ = some (.int .i64 nd))) (by kernel_rfl) ?_ (fun hHeld => ?_)
    · exact ⟨keepc (by go_grown) (Nat.lt_of_succ_lt hsz) z0, keepc (by go_grown) hsz z1, keepc (by go_grown) hsz z2⟩
    refine tL 0 (some 10) ?_
    refine tL 1 (some 11) ?_
    refine tL 2 (some 12) ?_
    refine wpAnyH_ready (rs := [3]) (by kernel_rfl) (by simp) ?_
    refine AllReadyH.cons (o := _) rfl (fun K hK => ?_) AllReadyH.nil
    go_simp
    refine (c_l1In_f _ _ _ hs _).mono ?_; rintro e w' ⟨rfl, rfl⟩
    (try go_wp2_with fail)
    (try clear hHeld)
    refine hK.out _ _ ?_ (fun hHeld => ?_)
    · exact ⟨keepc (by go_grown) (Nat.lt_of_succ_lt hsz) z0, keepc (by go_grown) hsz z1, keepc (by go_grown) hsz z2⟩
    clear hK K
    (try simp only [Act.put, List.setIfInBounds_toArray, List.set_cons_zero, List.set_cons_succ])
    refine tL 4 (some 14) ?_
    refine tU 5 (some 15) ?_
    refine tU 6 (some 16) ?_
    refine tU 7 (some 17) ?_
    refine tU 8 (some 18) ?_
    refine tL 9 (some 19) ?_
    refine tL 10 (some 20) ?_
    refine tU 11 (some 21) ?_
    refine tU 12 (some 22) ?_
    refine tU 13 (some 23) ?_
    refine tU 14 (some 24) ?_
    refine tU 15 (some 25) ?_
    refine tU 16 (some 26) ?_
    refine tU 17 (some 27) ?_
    refine tU 18 (some 28) ?_
    refine tL 19 (some 29) ?_
    refine tL 20 (some 30) ?_
    refine tU 21 (some 31) ?_
    refine tU 22 (some 32) ?_
    refine tU 23 (some 33) ?_
    refine tU 24 (some 34) ?_
    refine tU 25 (some 35) ?_
    refine tU 26 (some 36) ?_
    refine tU 27 (some 37) ?_
    refine tU 28 (some 38) ?_
    refine tU 29 (some 39) ?_
    refine tU 30 (some 40) ?_
    refine tU 31 (some 41) ?_
    refine tU 32 (some 42) ?_
    refine tU 33 (some 43) ?_
    refine tU 34 (some 44) ?_
    refine tU 35 (some 45) ?_
    refine tL 36 (some 46) ?_
    refine tL 37 (some 4) ?_
    refine wpAnyH_done (by kernel_rfl) ?_ _
    go_wp2_with fail
    go_ret
    exact ⟨BoolIs.no HNB.out, HBW.out.trans ((show Below wb.heap.size wb _ by go_grown).mono HBW.out.size)⟩
  · have hs1 : 0 ≤ st := by omega
    have hs2 : st ≤ (l0 : Int) - 1 := by omega
    by_cases hn : nd < 0 ∨ (l0 : Int) - 1 < nd
    · have HNB := Go.Lib.hid (show ¬ boundN M.ns ⟨st, nd⟩ from fun hb => by have h1 := hb.2.1.1; have h2 := hb.2.1.2; simp only at h1 h2; omega)
      clear hs
      go_enter Tryz.func61, Tryz.ntmps61
      go_wp2_with fail
      refine code_gen (R := fun wb => wb.cell? ⟨w.heap.size, 0, none⟩ = some (.slice a0 l0 p0) ∧ wb.cell? ⟨w.heap.size + 1, 0, none⟩ = some (.int .i64 st) ∧ wb.cell? ⟨w.heap.size + 1, 1, none⟩ = some (.int .i64 nd) ∧ Below w.heap.size w wb ∧ w.heap.size + 1 < wb.heap.size) ⟨by simp, by simp, by simp, by go_grown, by simp⟩ ?_
      rintro wb ⟨z0, z1, z2, hBw2, hsz⟩
      have HBW := Go.Lib.hid hBw2
      clear hBw2
      refine wp_region_held_drew (S := (fun w' => w'.cell? ⟨w.heap.size, 0, none⟩ = some (.slice a0 l0 p0) ∧ w'.cell? ⟨w.heap.size + 1, 0, none⟩ = some (.int .i64 st) ∧ w'.cell? ⟨w.heap.size + 1, 1, none⟩ = some (.int .i64 nd))) (by kernel_rfl) ?_ (fun hHeld => ?_)
      · exact ⟨keepc (by go_grown) (Nat.lt_of_succ_lt hsz) z0, keepc (by go_grown) hsz z1, keepc (by go_grown) hsz z2⟩
      refine tL 0 (some 10) ?_
      refine tL 1 (some 11) ?_
      refine tL 2 (some 12) ?_
      refine wpAnyH_ready (rs := [3]) (by kernel_rfl) (by simp) ?_
      refine AllReadyH.cons (o := _) rfl (fun K hK => ?_) AllReadyH.nil
      go_simp
      first | (with_reducible refine (c_l1In_t _ _ _ hs1 hs2 _).mono ?_; rintro e w' ⟨rfl, rfl⟩) | (refine (c_l1In_f _ _ _ hn _).mono ?_; rintro e w' ⟨rfl, rfl⟩)
      (try go_wp2_with fail)
      (try clear hHeld)
      refine hK.out _ _ ?_ (fun hHeld => ?_)
      · exact ⟨keepc (by go_grown) (Nat.lt_of_succ_lt hsz) z0, keepc (by go_grown) hsz z1, keepc (by go_grown) hsz z2⟩
      clear hK K
      (try simp only [Act.put, List.setIfInBounds_toArray, List.set_cons_zero, List.set_cons_succ])
      refine tL 4 (some 14) ?_
      refine tL 5 (some 15) ?_
      refine tL 6 (some 16) ?_
      refine tL 7 (some 17) ?_
      refine wpAnyH_ready (rs := [8]) (by kernel_rfl) (by simp) ?_
      refine AllReadyH.cons (o := _) rfl (fun K hK => ?_) AllReadyH.nil
      go_simp
      first | (with_reducible refine (c_l1In_t _ _ _ hs1 hs2 _).mono ?_; rintro e w' ⟨rfl, rfl⟩) | (refine (c_l1In_f _ _ _ hn _).mono ?_; rintro e w' ⟨rfl, rfl⟩)
      (try go_wp2_with fail)
      (try clear hHeld)
      refine hK.out _ _ ?_ (fun hHeld => ?_)
      · exact ⟨keepc (by go_grown) (Nat.lt_of_succ_lt hsz) z0, keepc (by go_grown) hsz z1, keepc (by go_grown) hsz z2⟩
      clear hK K
      (try simp only [Act.put, List.setIfInBounds_toArray, List.set_cons_zero, List.set_cons_succ])
      refine tL 9 (some 19) ?_
      refine tL 10 (some 20) ?_
      refine tU 11 (some 21) ?_
      refine tU 12 (some 22) ?_
      refine tU 13 (some 23) ?_
      refine tU 14 (some 24) ?_
      refine tU 15 (some 25) ?_
      refine tU 16 (some 26) ?_
      refine tU 17 (some 27) ?_
      refine tU 18 (some 28) ?_
      refine tL 19 (some 29) ?_
      refine tL 20 (some 30) ?_
      refine tU 21 (some 31) ?_
      refine tU 22 (some 32) ?_
      refine tU 23 (some 33) ?_
      refine tU 24 (some 34) ?_
      refine tU 25 (some 35) ?_
      refine tU 26 (some 36) ?_
      refine tU 27 (some 37) ?_
      refine tU 28 (some 38) ?_
      refine tU 29 (some 39) ?_
      refine tU 30 (some 40) ?_
      refine tU 31 (some 41) ?_
      refine tU 32 (some 42) ?_
      refine tU 33 (some 43) ?_
      refine tU 34 (some 44) ?_
      refine tU 35 (some 45) ?_
      refine tL 36 (some 46) ?_
      refine tL 37 (some 4) ?_
      refine wpAnyH_done (by kernel_rfl) ?_ _
      go_wp2_with fail
      go_ret
      exact ⟨BoolIs.no HNB.out, HBW.out.trans ((show Below wb.heap.size wb _ by go_grown).mono HBW.out.size)⟩
    · have hn1 : 0 ≤ nd := by omega
      have hn2 : nd ≤ (l0 : Int) - 1 := by omega
      clear hs hn
      obtain ⟨p, rfl⟩ : ∃ p : Nat, st = p := ⟨st.toNat, by omega⟩
      obtain ⟨r, rfl⟩ : ∃ r : Nat, nd = r := ⟨nd.toNat, by omega⟩
      have hpl : (p : Int) < l0 := by omega
      have hrl : (r : Int) < l0 := by omega
      obtain ⟨kd, b, off, hkd, rfl, hbB, c0⟩ := node_kind HN.out (show p < l0 by omega)
      obtain ⟨i1, w1, b1, o1, hs3, e1, -, d6, d7⟩ := node_sort HN.out (show p < l0 by omega)
      obtain ⟨i2, w2, b2, o2, hs4, e2, -, f6, f7⟩ := node_sort HN.out (show r < l0 by omega)
      simp only [Option.some.injEq, Addr.mk.injEq, and_true] at e1 e2
      obtain ⟨rfl, rfl⟩ := e1
      obtain ⟨rfl, rfl⟩ := e2
      have hbl : b < w.heap.size := Nat.lt_of_lt_of_le hbB hBw
      have HKD := Go.Lib.hid (show (M.ns.getD (p : Int).toNat default).kind = kd by simpa using hkd)
      have HS3 := Go.Lib.hid hs3
      have HS4 := Go.Lib.hid hs4
      clear hkd hs3 hs4
      by_cases h36 : kd = 36
      · have q1 : (kd == 36) = true := by simpa using h36
        by_cases hi : i1 = i2
        · subst hi
          by_cases hw : w1 = w2
          · subst hw
            have HYB := Go.Lib.hid (show boundN M.ns ⟨p, r⟩ from ⟨⟨hs1, by simp only; omega⟩, ⟨hn1, by simp only; omega⟩, HKD.out.trans h36, HS3.out.trans HS4.out.symm⟩)
            go_enter Tryz.func61, Tryz.ntmps61
            go_wp2_with fail
            refine code_gen (R := fun wb => wb.cell? ⟨w.heap.size, 0, none⟩ = some (.slice (some ⟨b, off, none⟩) l0 p0) ∧ wb.cell? ⟨w.heap.size + 1, 0, none⟩ = some (.int .i64 p) ∧ wb.cell? ⟨w.heap.size + 1, 1, none⟩ = some (.int .i64 r) ∧ wb.cell? ⟨b, off + p * 9, none⟩ = some (.int .i64 kd) ∧ wb.cell? ⟨b, off + p * 9 + 6, none⟩ = some (.int .i64 i1) ∧ wb.cell? ⟨b, off + p * 9 + 7, none⟩ = some (.int .i64 w1) ∧ wb.cell? ⟨b, off + r * 9 + 6, none⟩ = some (.int .i64 i1) ∧ wb.cell? ⟨b, off + r * 9 + 7, none⟩ = some (.int .i64 w1) ∧ Below w.heap.size w wb ∧ w.heap.size + 1 < wb.heap.size) ⟨by simp, by simp, by simp, keepc (by go_grown) hbl c0, keepc (by go_grown) hbl d6, keepc (by go_grown) hbl d7, keepc (by go_grown) hbl f6, keepc (by go_grown) hbl f7, by go_grown, by simp⟩ ?_
            clear c0 d6 d7 f6 f7
            rintro wb ⟨z0, z1, z2, c0, d6, d7, f6, f7, hBw2, hsz⟩
            have HBW := Go.Lib.hid hBw2
            have hbw : b < wb.heap.size := Nat.lt_of_lt_of_le hbl hBw2.size
            clear hBw2
            refine wp_region_held_drew (S := (fun w' => w'.cell? ⟨w.heap.size, 0, none⟩ = some (.slice (some ⟨b, off, none⟩) l0 p0) ∧ w'.cell? ⟨w.heap.size + 1, 0, none⟩ = some (.int .i64 p) ∧ w'.cell? ⟨w.heap.size + 1, 1, none⟩ = some (.int .i64 r) ∧ w'.cell? ⟨b, off + p * 9, none⟩ = some (.int .i64 kd) ∧ w'.cell? ⟨b, off + p * 9 + 6, none⟩ = some (.int .i64 i1) ∧ w'.cell? ⟨b, off + p * 9 + 7, none⟩ = some (.int .i64 w1) ∧ w'.cell? ⟨b, off + r * 9 + 6, none⟩ = some (.int .i64 i1) ∧ w'.cell? ⟨b, off + r * 9 + 7, none⟩ = some (.int .i64 w1))) (by kernel_rfl) ?_ (fun hHeld => ?_)
            · exact keep8 (by go_grown) (Nat.lt_of_succ_lt hsz) hsz hbw z0 z1 z2 c0 d6 d7 f6 f7
            refine tL 0 (some 10) ?_
            refine tL 1 (some 11) ?_
            refine tL 2 (some 12) ?_
            refine wpAnyH_ready (rs := [3]) (by kernel_rfl) (by simp) ?_
            refine AllReadyH.cons (o := _) rfl (fun K hK => ?_) AllReadyH.nil
            go_simp
            first | (with_reducible refine (c_l1In_t _ _ _ hs1 hs2 _).mono ?_; rintro e w' ⟨rfl, rfl⟩) | (with_reducible refine (c_l1In_t _ _ _ hn1 hn2 _).mono ?_; rintro e w' ⟨rfl, rfl⟩)
            (try go_wp2_with fail)
            (try clear hHeld)
            refine hK.out _ _ ?_ (fun hHeld => ?_)
            · exact keep8 (by go_grown) (Nat.lt_of_succ_lt hsz) hsz hbw z0 z1 z2 c0 d6 d7 f6 f7
            clear hK K
            (try simp only [Act.put, List.setIfInBounds_toArray, List.set_cons_zero, List.set_cons_succ])
            refine tL 4 (some 14) ?_
            refine tL 5 (some 15) ?_
            refine tL 6 (some 16) ?_
            refine tL 7 (some 17) ?_
            refine wpAnyH_ready (rs := [8]) (by kernel_rfl) (by simp) ?_
            refine AllReadyH.cons (o := _) rfl (fun K hK => ?_) AllReadyH.nil
            go_simp
            first | (with_reducible refine (c_l1In_t _ _ _ hs1 hs2 _).mono ?_; rintro e w' ⟨rfl, rfl⟩) | (with_reducible refine (c_l1In_t _ _ _ hn1 hn2 _).mono ?_; rintro e w' ⟨rfl, rfl⟩)
            (try go_wp2_with fail)
            (try clear hHeld)
            refine hK.out _ _ ?_ (fun hHeld => ?_)
            · exact keep8 (by go_grown) (Nat.lt_of_succ_lt hsz) hsz hbw z0 z1 z2 c0 d6 d7 f6 f7
            clear hK K
            (try simp only [Act.put, List.setIfInBounds_toArray, List.set_cons_zero, List.set_cons_succ])
            refine tL 9 (some 19) ?_
            refine tL 10 (some 20) ?_
            refine tL 11 (some 21) ?_
            refine tL 12 (some 22) ?_
            refine tL 13 (some 23) ?_
            refine tL 14 (some 24) ?_
            refine tL 15 (some 25) ?_
            refine tL 16 (some 26) ?_
            refine tL 17 (some 27) ?_
            refine tL 18 (some 28) ?_
            refine tL 19 (some 29) ?_
            refine tL 20 (some 30) ?_
            refine tL 21 (some 31) ?_
            refine tL 22 (some 32) ?_
            refine tL 23 (some 33) ?_
            refine tL 24 (some 34) ?_
            refine tL 25 (some 35) ?_
            refine tL 26 (some 36) ?_
            refine tL 27 (some 37) ?_
            refine tL 28 (some 38) ?_
            refine tL 29 (some 39) ?_
            refine tL 30 (some 40) ?_
            refine tL 31 (some 41) ?_
            refine tL 32 (some 42) ?_
            refine tL 33 (some 43) ?_
            refine tL 34 (some 44) ?_
            refine tL 35 (some 45) ?_
            refine tL 36 (some 46) ?_
            refine tL 37 (some 4) ?_
            refine wpAnyH_done (by kernel_rfl) ?_ _
            go_wp2_with fail
            go_ret
            exact ⟨BoolIs.yes HYB.out, HBW.out.trans ((show Below wb.heap.size wb _ by go_grown).mono HBW.out.size)⟩
          · have q2 : (w1 == w2) = false := by simpa using hw
            have HNB := Go.Lib.hid (show ¬ boundN M.ns ⟨p, r⟩ from fun hb => by have h4 := hb.2.2.2; simp only at h4; rw [HS3.out, HS4.out] at h4; simp only [Prod.mk.injEq] at h4; exact hw h4.2)
            go_enter Tryz.func61, Tryz.ntmps61
            go_wp2_with fail
            refine code_gen (R := fun wb => wb.cell? ⟨w.heap.size, 0, none⟩ = some (.slice (some ⟨b, off, none⟩) l0 p0) ∧ wb.cell? ⟨w.heap.size + 1, 0, none⟩ = some (.int .i64 p) ∧ wb.cell? ⟨w.heap.size + 1, 1, none⟩ = some (.int .i64 r) ∧ wb.cell? ⟨b, off + p * 9, none⟩ = some (.int .i64 kd) ∧ wb.cell? ⟨b, off + p * 9 + 6, none⟩ = some (.int .i64 i1) ∧ wb.cell? ⟨b, off + p * 9 + 7, none⟩ = some (.int .i64 w1) ∧ wb.cell? ⟨b, off + r * 9 + 6, none⟩ = some (.int .i64 i1) ∧ wb.cell? ⟨b, off + r * 9 + 7, none⟩ = some (.int .i64 w2) ∧ Below w.heap.size w wb ∧ w.heap.size + 1 < wb.heap.size) ⟨by simp, by simp, by simp, keepc (by go_grown) hbl c0, keepc (by go_grown) hbl d6, keepc (by go_grown) hbl d7, keepc (by go_grown) hbl f6, keepc (by go_grown) hbl f7, by go_grown, by simp⟩ ?_
            clear c0 d6 d7 f6 f7
            rintro wb ⟨z0, z1, z2, c0, d6, d7, f6, f7, hBw2, hsz⟩
            have HBW := Go.Lib.hid hBw2
            have hbw : b < wb.heap.size := Nat.lt_of_lt_of_le hbl hBw2.size
            clear hBw2
            refine wp_region_held_drew (S := (fun w' => w'.cell? ⟨w.heap.size, 0, none⟩ = some (.slice (some ⟨b, off, none⟩) l0 p0) ∧ w'.cell? ⟨w.heap.size + 1, 0, none⟩ = some (.int .i64 p) ∧ w'.cell? ⟨w.heap.size + 1, 1, none⟩ = some (.int .i64 r) ∧ w'.cell? ⟨b, off + p * 9, none⟩ = some (.int .i64 kd) ∧ w'.cell? ⟨b, off + p * 9 + 6, none⟩ = some (.int .i64 i1) ∧ w'.cell? ⟨b, off + p * 9 + 7, none⟩ = some (.int .i64 w1) ∧ w'.cell? ⟨b, off + r * 9 + 6, none⟩ = some (.int .i64 i1) ∧ w'.cell? ⟨b, off + r * 9 + 7, none⟩ = some (.int .i64 w2))) (by kernel_rfl) ?_ (fun hHeld => ?_)
            · exact keep8 (by go_grown) (Nat.lt_of_succ_lt hsz) hsz hbw z0 z1 z2 c0 d6 d7 f6 f7
            refine tL 0 (some 10) ?_
            refine tL 1 (some 11) ?_
            refine tL 2 (some 12) ?_
            refine wpAnyH_ready (rs := [3]) (by kernel_rfl) (by simp) ?_
            refine AllReadyH.cons (o := _) rfl (fun K hK => ?_) AllReadyH.nil
            go_simp
            first | (with_reducible refine (c_l1In_t _ _ _ hs1 hs2 _).mono ?_; rintro e w' ⟨rfl, rfl⟩) | (with_reducible refine (c_l1In_t _ _ _ hn1 hn2 _).mono ?_; rintro e w' ⟨rfl, rfl⟩)
            (try go_wp2_with fail)
            (try clear hHeld)
            refine hK.out _ _ ?_ (fun hHeld => ?_)
            · exact keep8 (by go_grown) (Nat.lt_of_succ_lt hsz) hsz hbw z0 z1 z2 c0 d6 d7 f6 f7
            clear hK K
            (try simp only [Act.put, List.setIfInBounds_toArray, List.set_cons_zero, List.set_cons_succ])
            refine tL 4 (some 14) ?_
            refine tL 5 (some 15) ?_
            refine tL 6 (some 16) ?_
            refine tL 7 (some 17) ?_
            refine wpAnyH_ready (rs := [8]) (by kernel_rfl) (by simp) ?_
            refine AllReadyH.cons (o := _) rfl (fun K hK => ?_) AllReadyH.nil
            go_simp
            first | (with_reducible refine (c_l1In_t _ _ _ hs1 hs2 _).mono ?_; rintro e w' ⟨rfl, rfl⟩) | (with_reducible refine (c_l1In_t _ _ _ hn1 hn2 _).mono ?_; rintro e w' ⟨rfl, rfl⟩)
            (try go_wp2_with fail)
            (try clear hHeld)
            refine hK.out _ _ ?_ (fun hHeld => ?_)
            · exact keep8 (by go_grown) (Nat.lt_of_succ_lt hsz) hsz hbw z0 z1 z2 c0 d6 d7 f6 f7
            clear hK K
            (try simp only [Act.put, List.setIfInBounds_toArray, List.set_cons_zero, List.set_cons_succ])
            refine tL 9 (some 19) ?_
            refine tL 10 (some 20) ?_
            refine tL 11 (some 21) ?_
            refine tL 12 (some 22) ?_
            refine tL 13 (some 23) ?_
            refine tL 14 (some 24) ?_
            refine tL 15 (some 25) ?_
            refine tL 16 (some 26) ?_
            refine tL 17 (some 27) ?_
            refine tL 18 (some 28) ?_
            refine tL 19 (some 29) ?_
            refine tL 20 (some 30) ?_
            refine tL 21 (some 31) ?_
            refine tL 22 (some 32) ?_
            refine tL 23 (some 33) ?_
            refine tL 24 (some 34) ?_
            refine tL 25 (some 35) ?_
            refine tL 26 (some 36) ?_
            refine tL 27 (some 37) ?_
            refine tL 28 (some 38) ?_
            refine tL 29 (some 39) ?_
            refine tL 30 (some 40) ?_
            refine tL 31 (some 41) ?_
            refine tL 32 (some 42) ?_
            refine tL 33 (some 43) ?_
            refine tL 34 (some 44) ?_
            refine tL 35 (some 45) ?_
            refine tL 36 (some 46) ?_
            refine tL 37 (some 4) ?_
            refine wpAnyH_done (by kernel_rfl) ?_ _
            go_wp2_with fail
            go_ret
            exact ⟨BoolIs.no HNB.out, HBW.out.trans ((show Below wb.heap.size wb _ by go_grown).mono HBW.out.size)⟩
        · have q2 : (i1 == i2) = false := by simpa using hi
          have HNB := Go.Lib.hid (show ¬ boundN M.ns ⟨p, r⟩ from fun hb => by have h4 := hb.2.2.2; simp only at h4; rw [HS3.out, HS4.out] at h4; simp only [Prod.mk.injEq] at h4; exact hi h4.1)
          go_enter Tryz.func61, Tryz.ntmps61
          go_wp2_with fail
          refine code_gen (R := fun wb => wb.cell? ⟨w.heap.size, 0, none⟩ = some (.slice (some ⟨b, off, none⟩) l0 p0) ∧ wb.cell? ⟨w.heap.size + 1, 0, none⟩ = some (.int .i64 p) ∧ wb.cell? ⟨w.heap.size + 1, 1, none⟩ = some (.int .i64 r) ∧ wb.cell? ⟨b, off + p * 9, none⟩ = some (.int .i64 kd) ∧ wb.cell? ⟨b, off + p * 9 + 6, none⟩ = some (.int .i64 i1) ∧ wb.cell? ⟨b, off + p * 9 + 7, none⟩ = some (.int .i64 w1) ∧ wb.cell? ⟨b, off + r * 9 + 6, none⟩ = some (.int .i64 i2) ∧ wb.cell? ⟨b, off + r * 9 + 7, none⟩ = some (.int .i64 w2) ∧ Below w.heap.size w wb ∧ w.heap.size + 1 < wb.heap.size) ⟨by simp, by simp, by simp, keepc (by go_grown) hbl c0, keepc (by go_grown) hbl d6, keepc (by go_grown) hbl d7, keepc (by go_grown) hbl f6, keepc (by go_grown) hbl f7, by go_grown, by simp⟩ ?_
          clear c0 d6 d7 f6 f7
          rintro wb ⟨z0, z1, z2, c0, d6, d7, f6, f7, hBw2, hsz⟩
          have HBW := Go.Lib.hid hBw2
          have hbw : b < wb.heap.size := Nat.lt_of_lt_of_le hbl hBw2.size
          clear hBw2
          refine wp_region_held_drew (S := (fun w' => w'.cell? ⟨w.heap.size, 0, none⟩ = some (.slice (some ⟨b, off, none⟩) l0 p0) ∧ w'.cell? ⟨w.heap.size + 1, 0, none⟩ = some (.int .i64 p) ∧ w'.cell? ⟨w.heap.size + 1, 1, none⟩ = some (.int .i64 r) ∧ w'.cell? ⟨b, off + p * 9, none⟩ = some (.int .i64 kd) ∧ w'.cell? ⟨b, off + p * 9 + 6, none⟩ = some (.int .i64 i1) ∧ w'.cell? ⟨b, off + p * 9 + 7, none⟩ = some (.int .i64 w1) ∧ w'.cell? ⟨b, off + r * 9 + 6, none⟩ = some (.int .i64 i2) ∧ w'.cell? ⟨b, off + r * 9 + 7, none⟩ = some (.int .i64 w2))) (by kernel_rfl) ?_ (fun hHeld => ?_)
          · exact keep8 (by go_grown) (Nat.lt_of_succ_lt hsz) hsz hbw z0 z1 z2 c0 d6 d7 f6 f7
          refine tL 0 (some 10) ?_
          refine tL 1 (some 11) ?_
          refine tL 2 (some 12) ?_
          refine wpAnyH_ready (rs := [3]) (by kernel_rfl) (by simp) ?_
          refine AllReadyH.cons (o := _) rfl (fun K hK => ?_) AllReadyH.nil
          go_simp
          first | (with_reducible refine (c_l1In_t _ _ _ hs1 hs2 _).mono ?_; rintro e w' ⟨rfl, rfl⟩) | (with_reducible refine (c_l1In_t _ _ _ hn1 hn2 _).mono ?_; rintro e w' ⟨rfl, rfl⟩)
          (try go_wp2_with fail)
          (try clear hHeld)
          refine hK.out _ _ ?_ (fun hHeld => ?_)
          · exact keep8 (by go_grown) (Nat.lt_of_succ_lt hsz) hsz hbw z0 z1 z2 c0 d6 d7 f6 f7
          clear hK K
          (try simp only [Act.put, List.setIfInBounds_toArray, List.set_cons_zero, List.set_cons_succ])
          refine tL 4 (some 14) ?_
          refine tL 5 (some 15) ?_
          refine tL 6 (some 16) ?_
          refine tL 7 (some 17) ?_
          refine wpAnyH_ready (rs := [8]) (by kernel_rfl) (by simp) ?_
          refine AllReadyH.cons (o := _) rfl (fun K hK => ?_) AllReadyH.nil
          go_simp
          first | (with_reducible refine (c_l1In_t _ _ _ hs1 hs2 _).mono ?_; rintro e w' ⟨rfl, rfl⟩) | (with_reducible refine (c_l1In_t _ _ _ hn1 hn2 _).mono ?_; rintro e w' ⟨rfl, rfl⟩)
          (try go_wp2_with fail)
          (try clear hHeld)
          refine hK.out _ _ ?_ (fun hHeld => ?_)
          · exact keep8 (by go_grown) (Nat.lt_of_succ_lt hsz) hsz hbw z0 z1 z2 c0 d6 d7 f6 f7
          clear hK K
          (try simp only [Act.put, List.setIfInBounds_toArray, List.set_cons_zero, List.set_cons_succ])
          refine tL 9 (some 19) ?_
          refine tL 10 (some 20) ?_
          refine tL 11 (some 21) ?_
          refine tL 12 (some 22) ?_
          refine tL 13 (some 23) ?_
          refine tL 14 (some 24) ?_
          refine tL 15 (some 25) ?_
          refine tL 16 (some 26) ?_
          refine tL 17 (some 27) ?_
          refine tL 18 (some 28) ?_
          refine tL 19 (some 29) ?_
          refine tL 20 (some 30) ?_
          refine tL 21 (some 31) ?_
          refine tL 22 (some 32) ?_
          refine tL 23 (some 33) ?_
          refine tL 24 (some 34) ?_
          refine tL 25 (some 35) ?_
          refine tL 26 (some 36) ?_
          refine tL 27 (some 37) ?_
          refine tL 28 (some 38) ?_
          refine tL 29 (some 39) ?_
          refine tL 30 (some 40) ?_
          refine tL 31 (some 41) ?_
          refine tL 32 (some 42) ?_
          refine tL 33 (some 43) ?_
          refine tL 34 (some 44) ?_
          refine tL 35 (some 45) ?_
          refine tL 36 (some 46) ?_
          refine tL 37 (some 4) ?_
          refine wpAnyH_done (by kernel_rfl) ?_ _
          go_wp2_with fail
          go_ret
          exact ⟨BoolIs.no HNB.out, HBW.out.trans ((show Below wb.heap.size wb _ by go_grown).mono HBW.out.size)⟩
      · have q1 : (kd == 36) = false := by simpa using h36
        have HNB := Go.Lib.hid (show ¬ boundN M.ns ⟨p, r⟩ from fun hb => h36 (HKD.out.symm.trans hb.2.2.1))
        go_enter Tryz.func61, Tryz.ntmps61
        go_wp2_with fail
        refine code_gen (R := fun wb => wb.cell? ⟨w.heap.size, 0, none⟩ = some (.slice (some ⟨b, off, none⟩) l0 p0) ∧ wb.cell? ⟨w.heap.size + 1, 0, none⟩ = some (.int .i64 p) ∧ wb.cell? ⟨w.heap.size + 1, 1, none⟩ = some (.int .i64 r) ∧ wb.cell? ⟨b, off + p * 9, none⟩ = some (.int .i64 kd) ∧ wb.cell? ⟨b, off + p * 9 + 6, none⟩ = some (.int .i64 i1) ∧ wb.cell? ⟨b, off + p * 9 + 7, none⟩ = some (.int .i64 w1) ∧ wb.cell? ⟨b, off + r * 9 + 6, none⟩ = some (.int .i64 i2) ∧ wb.cell? ⟨b, off + r * 9 + 7, none⟩ = some (.int .i64 w2) ∧ Below w.heap.size w wb ∧ w.heap.size + 1 < wb.heap.size) ⟨by simp, by simp, by simp, keepc (by go_grown) hbl c0, keepc (by go_grown) hbl d6, keepc (by go_grown) hbl d7, keepc (by go_grown) hbl f6, keepc (by go_grown) hbl f7, by go_grown, by simp⟩ ?_
        clear c0 d6 d7 f6 f7
        rintro wb ⟨z0, z1, z2, c0, d6, d7, f6, f7, hBw2, hsz⟩
        have HBW := Go.Lib.hid hBw2
        have hbw : b < wb.heap.size := Nat.lt_of_lt_of_le hbl hBw2.size
        clear hBw2
        refine wp_region_held_drew (S := (fun w' => w'.cell? ⟨w.heap.size, 0, none⟩ = some (.slice (some ⟨b, off, none⟩) l0 p0) ∧ w'.cell? ⟨w.heap.size + 1, 0, none⟩ = some (.int .i64 p) ∧ w'.cell? ⟨w.heap.size + 1, 1, none⟩ = some (.int .i64 r) ∧ w'.cell? ⟨b, off + p * 9, none⟩ = some (.int .i64 kd) ∧ w'.cell? ⟨b, off + p * 9 + 6, none⟩ = some (.int .i64 i1) ∧ w'.cell? ⟨b, off + p * 9 + 7, none⟩ = some (.int .i64 w1) ∧ w'.cell? ⟨b, off + r * 9 + 6, none⟩ = some (.int .i64 i2) ∧ w'.cell? ⟨b, off + r * 9 + 7, none⟩ = some (.int .i64 w2))) (by kernel_rfl) ?_ (fun hHeld => ?_)
        · exact keep8 (by go_grown) (Nat.lt_of_succ_lt hsz) hsz hbw z0 z1 z2 c0 d6 d7 f6 f7
        refine tL 0 (some 10) ?_
        refine tL 1 (some 11) ?_
        refine tL 2 (some 12) ?_
        refine wpAnyH_ready (rs := [3]) (by kernel_rfl) (by simp) ?_
        refine AllReadyH.cons (o := _) rfl (fun K hK => ?_) AllReadyH.nil
        go_simp
        first | (with_reducible refine (c_l1In_t _ _ _ hs1 hs2 _).mono ?_; rintro e w' ⟨rfl, rfl⟩) | (with_reducible refine (c_l1In_t _ _ _ hn1 hn2 _).mono ?_; rintro e w' ⟨rfl, rfl⟩)
        (try go_wp2_with fail)
        (try clear hHeld)
        refine hK.out _ _ ?_ (fun hHeld => ?_)
        · exact keep8 (by go_grown) (Nat.lt_of_succ_lt hsz) hsz hbw z0 z1 z2 c0 d6 d7 f6 f7
        clear hK K
        (try simp only [Act.put, List.setIfInBounds_toArray, List.set_cons_zero, List.set_cons_succ])
        refine tL 4 (some 14) ?_
        refine tL 5 (some 15) ?_
        refine tL 6 (some 16) ?_
        refine tL 7 (some 17) ?_
        refine wpAnyH_ready (rs := [8]) (by kernel_rfl) (by simp) ?_
        refine AllReadyH.cons (o := _) rfl (fun K hK => ?_) AllReadyH.nil
        go_simp
        first | (with_reducible refine (c_l1In_t _ _ _ hs1 hs2 _).mono ?_; rintro e w' ⟨rfl, rfl⟩) | (with_reducible refine (c_l1In_t _ _ _ hn1 hn2 _).mono ?_; rintro e w' ⟨rfl, rfl⟩)
        (try go_wp2_with fail)
        (try clear hHeld)
        refine hK.out _ _ ?_ (fun hHeld => ?_)
        · exact keep8 (by go_grown) (Nat.lt_of_succ_lt hsz) hsz hbw z0 z1 z2 c0 d6 d7 f6 f7
        clear hK K
        (try simp only [Act.put, List.setIfInBounds_toArray, List.set_cons_zero, List.set_cons_succ])
        refine tL 9 (some 19) ?_
        refine tL 10 (some 20) ?_
        refine tL 11 (some 21) ?_
        refine tL 12 (some 22) ?_
        refine tL 13 (some 23) ?_
        refine tL 14 (some 24) ?_
        refine tL 15 (some 25) ?_
        refine tL 16 (some 26) ?_
        refine tL 17 (some 27) ?_
        refine tL 18 (some 28) ?_
        refine tL 19 (some 29) ?_
        refine tL 20 (some 30) ?_
        refine tU 21 (some 31) ?_
        refine tU 22 (some 32) ?_
        refine tU 23 (some 33) ?_
        refine tU 24 (some 34) ?_
        refine tU 25 (some 35) ?_
        refine tU 26 (some 36) ?_
        refine tU 27 (some 37) ?_
        refine tU 28 (some 38) ?_
        refine tU 29 (some 39) ?_
        refine tU 30 (some 40) ?_
        refine tU 31 (some 41) ?_
        refine tU 32 (some 42) ?_
        refine tU 33 (some 43) ?_
        refine tU 34 (some 44) ?_
        refine tU 35 (some 45) ?_
        refine tL 36 (some 46) ?_
        refine tL 37 (some 4) ?_
        refine wpAnyH_done (by kernel_rfl) ?_ _
        go_wp2_with fail
        go_ret
        exact ⟨BoolIs.no HNB.out, HBW.out.trans ((show Below wb.heap.size wb _ by go_grown).mono HBW.out.size)⟩

end Go.Proofs.YtbkcecilbpngcaaGreat
