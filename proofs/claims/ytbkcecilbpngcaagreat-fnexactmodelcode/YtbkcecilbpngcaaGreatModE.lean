
/-
  What is bad or must hold: the model.
-/
import Derived.Test.YtbkcecilbpngcaaGreatRows
import Derived.Test.YtbkcecilbpngcaaGreatG0
import Derived.Test.YtbkcecilbpngcaaGreatPaA
import Derived.Test.YtbkcecilbpngcaaGreatNodeM
import Derived.Test.YtbkcecilbpngcaaGreatNames
import Derived.Test.YtbkcecilbpngcaaGreatNodeL
import Derived.Test.YtbkcecilbpngcaaGreatResP
import Derived.Test.YtbkcecilbpngcaaGreatModD
import Derived.Test.YtbkcecilbpngcaaGreatModA
import Derived.Test.YtbkcecilbpngcaaGreatModB
import Derived.WalkKit
import Derived.ProofKit
import Derived.OpenShut
import Derived.WalkSpells
import Derived.WalkLawsBesides
import Derived.Outline
import Derived.BigQuiet
import Derived.Handy
import Derived.LoopTactic
import Derived.Deep.Light
import Derived.Deep.RegionWith
import Derived.Deep.RegionHeld3
import Derived.Deep.DeepCutAuto
import Derived.Lib.Hide
namespace Go.Proofs.YtbkcecilbpngcaaGreat
open Go.ChangeShapes Go.WideShapes Go.ChangeAt Go.RowKit
set_option linter.unusedVariables false
set_option maxRecDepth 100000


/-- A place of a node of words of one bit. -/
def propOk1 (ns : List ND) (p : Int) : Prop := 0 ≤ p ∧ p < ns.length ∧ sortAt ns p = (0, 1)
def propsOk (ns : List ND) (ps : List Int) : Prop := ∀ t, t < ps.length → propOk1 ns (ps.getD t 0)
theorem node_sort {B : Nat} {w : World} {a : Option Addr} {len cap q : Nat} {ns : List ND} (h : NodesAt B w a len cap ns) (hk : q < len) :
    ∃ (si sw : Int) (b off : Nat), sortAt ns q = (si, sw) ∧ a = some ⟨b, off, none⟩ ∧ b < B ∧ w.cell? ⟨b, off + q * 9 + 6, none⟩ = some (.int .i64 si) ∧ w.cell? ⟨b, off + q * 9 + 7, none⟩ = some (.int .i64 sw) := by
  obtain ⟨nd, hk', b, off, hnd, hok, ha, hbB, hc⟩ := node_at h hk
  have hg : ns.getD q default = ns[q] := by simp [List.getD, hk']
  exact ⟨nd.si, nd.sw, b, off, by unfold sortAt; rw [Int.toNat_natCast, hg, hnd], ha, hbB, hc 6 (by decide), hc 7 (by decide)⟩
set_option maxHeartbeats 8000000 in
theorem c_l2Props {B : Nat} {s0 s1 s2 s3 s4 : SL} {M : MD} {a : Option Addr} {len cap : Nat} {ps : List Int} (w : World) (hBw : B ≤ w.heap.size) (h : ModelAt B w s0 s1 s2 s3 s4 M) (hp : IntsAt B w a len cap ps) :
    Calls Tryz.prog 26 #[.agg (mcells s0 s1 s2 s3 s4).toArray, .slice a len cap] w fun e w' => BoolIs (propsOk M.ns ps) e ∧ Below w.heap.size w w' := by
  have HN := Go.Lib.hid h.ns
  have HP := Go.Lib.hid hp
  have hl0 : M.ns.length = s0.len := h.ns.1
  have hlp : ps.length = len := hp.1
  have hm := Nat.le_trans h.ns.2.1 h.ns.2.2.1
  have hm2 := Nat.le_trans hp.2.1 hp.2.2.1
  unfold maxLen at hm hm2
  clear h hp
  obtain ⟨a0, l0, p0⟩ := s0
  simp only [mcells] at *
  go_enter Tryz.func26, Tryz.ntmps26
  go_wp2_with fail
  go_loopw [5] (fun i wr => ∃ k : Nat, k ≤ len ∧ i = .int .i64 k ∧ (∀ t, t < k → propOk1 M.ns (ps.getD t 0)) ∧ Boxed ⟨a0, l0, p0⟩ s1 s2 s3 s4 w wr) (fun i _ => len - (intOf i).toNat)
  case atStart => exact ⟨0, by omega, rfl, fun t h => by omega, Boxed.new _ _ _ _ _ _ _⟩
  case round =>
    obtain ⟨k, hk, rfl, hno, HX0⟩ := hrel
    have HNO := Go.Lib.hid hno
    have HXR := Go.Lib.hid HX0
    obtain ⟨hlt, b0, -, -, -, -, hBk⟩ := HX0
    have HB := Go.Lib.hid hBk
    clear hno hBk
    by_cases hkl : k < len
    · have hki : (k : Int) < len := by omega
      obtain ⟨p, b, off, hpe, hpf, rfl, hbB, c0⟩ := int_at (HP.out.below (HB.out.mono hBw)) hkl
      have hbr : b < wr.heap.size := Nat.lt_of_lt_of_le hbB (Nat.le_trans hBw HB.out.size)
      have hwl : wrap64 ((l0 : Int) - 1) = (l0 : Int) - 1 := IntWalk.wrap64_in _ (by omega)
      have hwl2 : IntKind.i64.wrap ((l0 : Int) - 1) = (l0 : Int) - 1 := (IntWalk.i64_left _).trans hwl
      by_cases hpr : p < 0 ∨ (l0 : Int) - 1 < p
      · have HNP := Go.Lib.hid (show ¬ propOk1 M.ns (ps.getD k 0) by rintro ⟨h1, h2, _⟩; rw [hpe] at h1 h2; omega)
        clear hpe
        go_wp2_with fail
        refine wp_region_held_drew (S := (fun w' => w'.cell? ⟨w.heap.size, 0, none⟩ = some (.slice a0 l0 p0) ∧ w'.cell? ⟨b, off + k, none⟩ = some (.int .i64 p))) (by kernel_rfl) ?_ (fun hHeld => ?_)
        · exact ⟨keepc (by go_grown) hlt b0, keepc (by go_grown) hbr c0⟩
        refine tL 0 (some 12) ?_
        refine tL 1 (some 13) ?_
        refine tL 2 (some 14) ?_
        refine tL 3 (some 15) ?_
        refine tL 4 (some 16) ?_
        refine tL 5 (some 17) ?_
        refine tL 6 (some 18) ?_
        refine tL 7 (some 19) ?_
        refine wpAnyH_ready (rs := [8]) (by kernel_rfl) (by simp) ?_
        refine AllReadyH.cons (o := _) rfl (fun K hK => ?_) AllReadyH.nil
        go_simp
        refine (c_l1In_f _ _ _ hpr _).mono ?_; rintro e w' ⟨rfl, rfl⟩
        (try go_wp2_with fail)
        (try clear hHeld)
        refine hK.out _ _ ?_ (fun hHeld => ?_)
        · exact ⟨keepc (by go_grown) hlt b0, keepc (by go_grown) hbr c0⟩
        clear hK K
        (try simp only [Act.put, List.setIfInBounds_toArray, List.set_cons_zero, List.set_cons_succ])
        refine tL 9 (some 21) ?_
        refine tL 10 (some 22) ?_
        refine tU 11 (some 23) ?_
        refine tU 12 (some 24) ?_
        refine tU 13 (some 25) ?_
        refine tU 14 (some 26) ?_
        refine tU 15 (some 27) ?_
        refine tU 16 (some 28) ?_
        refine tU 17 (some 29) ?_
        refine tU 18 (some 30) ?_
        refine tU 19 (some 31) ?_
        refine tU 20 (some 32) ?_
        refine tU 21 (some 33) ?_
        refine tL 22 (some 34) ?_
        refine wpAnyH_done (by kernel_rfl) ?_ _
        go_wp2_with fail
        go_ret
        exact ⟨BoolIs.no (fun h => HNP.out (h k (by omega))), below_drew (HB.out.trans (by go_grown))⟩
      · obtain ⟨q, rfl⟩ : ∃ q : Nat, p = q := ⟨p.toNat, by omega⟩
        have hq0 : (0 : Int) ≤ q := by omega
        have hq1 : (q : Int) ≤ (l0 : Int) - 1 := by omega
        have hql : (q : Int) < l0 := by omega
        obtain ⟨si, sw, bn, on, hse, rfl, hbnB, n6, n7⟩ := node_sort ((HN.out.rows.below (HB.out.mono hBw)).nodes) (show q < l0 by omega)
        have hbn : bn < wr.heap.size := Nat.lt_of_lt_of_le hbnB (Nat.le_trans hBw HB.out.size)
        have HSE := Go.Lib.hid hse
        have HPE := Go.Lib.hid hpe
        clear hse hpe
        by_cases h1 : si = 0
        · subst h1
          by_cases h2 : sw = 1
          · subst h2
            have HYES := Go.Lib.hid (show ∀ t, t < k + 1 → propOk1 M.ns (ps.getD t 0) from fun t ht => by
              rcases Nat.lt_or_ge t k with h | h
              · exact HNO.out t h
              · obtain rfl : t = k := by omega
                rw [HPE.out]; exact ⟨by omega, by omega, HSE.out⟩)
            go_wp2_with fail
            refine wp_region_held_drew (S := (fun w' => w'.cell? ⟨w.heap.size, 0, none⟩ = some (.slice (some ⟨bn, on, none⟩) l0 p0) ∧ w'.cell? ⟨b, off + k, none⟩ = some (.int .i64 q) ∧ w'.cell? ⟨bn, on + q * 9 + 6, none⟩ = some (.int .i64 0) ∧ w'.cell? ⟨bn, on + q * 9 + 7, none⟩ = some (.int .i64 1))) (by kernel_rfl) ?_ (fun hHeld => ?_)
            · exact ⟨keepc (by go_grown) hlt b0, keepc (by go_grown) hbr c0, keepc (by go_grown) hbn n6, keepc (by go_grown) hbn n7⟩
            refine tL 0 (some 12) ?_
            refine tL 1 (some 13) ?_
            refine tL 2 (some 14) ?_
            refine tL 3 (some 15) ?_
            refine tL 4 (some 16) ?_
            refine tL 5 (some 17) ?_
            refine tL 6 (some 18) ?_
            refine tL 7 (some 19) ?_
            refine wpAnyH_ready (rs := [8]) (by kernel_rfl) (by simp) ?_
            refine AllReadyH.cons (o := _) rfl (fun K hK => ?_) AllReadyH.nil
            go_simp
            refine (c_l1In_t _ _ _ hq0 hq1 _).mono ?_; rintro e w' ⟨rfl, rfl⟩
            (try go_wp2_with fail)
            (try clear hHeld)
            refine hK.out _ _ ?_ (fun hHeld => ?_)
            · exact ⟨keepc (by go_grown) hlt b0, keepc (by go_grown) hbr c0, keepc (by go_grown) hbn n6, keepc (by go_grown) hbn n7⟩
            clear hK K
            (try simp only [Act.put, List.setIfInBounds_toArray, List.set_cons_zero, List.set_cons_succ])
            refine tL 9 (some 21) ?_
            refine tL 10 (some 22) ?_
            refine tL 11 (some 23) ?_
            refine tL 12 (some 24) ?_
            refine tL 13 (some 25) ?_
            refine tL 14 (some 26) ?_
            refine tL 15 (some 27) ?_
            refine tL 16 (some 28) ?_
            refine tL 17 (some 29) ?_
            refine tL 18 (some 30) ?_
            refine tL 19 (some 31) ?_
            refine wpAnyH_ready (rs := [20]) (by kernel_rfl) (by simp) ?_
            refine AllReadyH.cons (o := _) rfl (fun K hK => ?_) AllReadyH.nil
            go_simp
            refine (c_l2Word _ _).mono ?_; rintro e w' ⟨rfl, rfl⟩
            (try go_wp2_with fail)
            (try clear hHeld)
            refine hK.out _ _ ?_ (fun hHeld => ?_)
            · exact ⟨keepc (by go_grown) hlt b0, keepc (by go_grown) hbr c0, keepc (by go_grown) hbn n6, keepc (by go_grown) hbn n7⟩
            clear hK K
            (try simp only [Act.put, List.setIfInBounds_toArray, List.set_cons_zero, List.set_cons_succ])
            refine tL 21 (some 33) ?_
            refine tL 22 (some 34) ?_
            refine wpAnyH_done (by kernel_rfl) ?_ _
            go_wp2_with fail
            go_roundw
            case rel => exact ⟨k + 1, by omega, by go_num, HYES.out, HXR.out.below (by go_grown)⟩
            case measure => simp [intOf]; omega
          · have q2 : (sw == 1) = false := by simpa using h2
            have HNP := Go.Lib.hid (show ¬ propOk1 M.ns (ps.getD k 0) by rintro ⟨_, _, h3⟩; rw [HPE.out, HSE.out] at h3; exact h2 (by simpa using h3))
            go_wp2_with fail
            refine wp_region_held_drew (S := (fun w' => w'.cell? ⟨w.heap.size, 0, none⟩ = some (.slice (some ⟨bn, on, none⟩) l0 p0) ∧ w'.cell? ⟨b, off + k, none⟩ = some (.int .i64 q) ∧ w'.cell? ⟨bn, on + q * 9 + 6, none⟩ = some (.int .i64 0) ∧ w'.cell? ⟨bn, on + q * 9 + 7, none⟩ = some (.int .i64 sw))) (by kernel_rfl) ?_ (fun hHeld => ?_)
            · exact ⟨keepc (by go_grown) hlt b0, keepc (by go_grown) hbr c0, keepc (by go_grown) hbn n6, keepc (by go_grown) hbn n7⟩
            refine tL 0 (some 12) ?_
            refine tL 1 (some 13) ?_
            refine tL 2 (some 14) ?_
            refine tL 3 (some 15) ?_
            refine tL 4 (some 16) ?_
            refine tL 5 (some 17) ?_
            refine tL 6 (some 18) ?_
            refine tL 7 (some 19) ?_
            refine wpAnyH_ready (rs := [8]) (by kernel_rfl) (by simp) ?_
            refine AllReadyH.cons (o := _) rfl (fun K hK => ?_) AllReadyH.nil
            go_simp
            refine (c_l1In_t _ _ _ hq0 hq1 _).mono ?_; rintro e w' ⟨rfl, rfl⟩
            (try go_wp2_with fail)
            (try clear hHeld)
            refine hK.out _ _ ?_ (fun hHeld => ?_)
            · exact ⟨keepc (by go_grown) hlt b0, keepc (by go_grown) hbr c0, keepc (by go_grown) hbn n6, keepc (by go_grown) hbn n7⟩
            clear hK K
            (try simp only [Act.put, List.setIfInBounds_toArray, List.set_cons_zero, List.set_cons_succ])
            refine tL 9 (some 21) ?_
            refine tL 10 (some 22) ?_
            refine tL 11 (some 23) ?_
            refine tL 12 (some 24) ?_
            refine tL 13 (some 25) ?_
            refine tL 14 (some 26) ?_
            refine tL 15 (some 27) ?_
            refine tL 16 (some 28) ?_
            refine tL 17 (some 29) ?_
            refine tL 18 (some 30) ?_
            refine tL 19 (some 31) ?_
            refine wpAnyH_ready (rs := [20]) (by kernel_rfl) (by simp) ?_
            refine AllReadyH.cons (o := _) rfl (fun K hK => ?_) AllReadyH.nil
            go_simp
            refine (c_l2Word _ _).mono ?_; rintro e w' ⟨rfl, rfl⟩
            (try go_wp2_with fail)
            (try clear hHeld)
            refine hK.out _ _ ?_ (fun hHeld => ?_)
            · exact ⟨keepc (by go_grown) hlt b0, keepc (by go_grown) hbr c0, keepc (by go_grown) hbn n6, keepc (by go_grown) hbn n7⟩
            clear hK K
            (try simp only [Act.put, List.setIfInBounds_toArray, List.set_cons_zero, List.set_cons_succ])
            refine tL 21 (some 33) ?_
            refine tL 22 (some 34) ?_
            refine wpAnyH_done (by kernel_rfl) ?_ _
            go_wp2_with fail
            go_ret
            exact ⟨BoolIs.no (fun h => HNP.out (h k (by omega))), below_drew (HB.out.trans (by go_grown))⟩
        · have q2 : (si == 0) = false := by simpa using h1
          have HNP := Go.Lib.hid (show ¬ propOk1 M.ns (ps.getD k 0) by rintro ⟨_, _, h3⟩; rw [HPE.out, HSE.out] at h3; simp only [Prod.mk.injEq] at h3; exact h1 h3.1)
          go_wp2_with fail
          refine wp_region_held_drew (S := (fun w' => w'.cell? ⟨w.heap.size, 0, none⟩ = some (.slice (some ⟨bn, on, none⟩) l0 p0) ∧ w'.cell? ⟨b, off + k, none⟩ = some (.int .i64 q) ∧ w'.cell? ⟨bn, on + q * 9 + 6, none⟩ = some (.int .i64 si) ∧ w'.cell? ⟨bn, on + q * 9 + 7, none⟩ = some (.int .i64 sw))) (by kernel_rfl) ?_ (fun hHeld => ?_)
          · exact ⟨keepc (by go_grown) hlt b0, keepc (by go_grown) hbr c0, keepc (by go_grown) hbn n6, keepc (by go_grown) hbn n7⟩
          refine tL 0 (some 12) ?_
          refine tL 1 (some 13) ?_
          refine tL 2 (some 14) ?_
          refine tL 3 (some 15) ?_
          refine tL 4 (some 16) ?_
          refine tL 5 (some 17) ?_
          refine tL 6 (some 18) ?_
          refine tL 7 (some 19) ?_
          refine wpAnyH_ready (rs := [8]) (by kernel_rfl) (by simp) ?_
          refine AllReadyH.cons (o := _) rfl (fun K hK => ?_) AllReadyH.nil
          go_simp
          refine (c_l1In_t _ _ _ hq0 hq1 _).mono ?_; rintro e w' ⟨rfl, rfl⟩
          (try go_wp2_with fail)
          (try clear hHeld)
          refine hK.out _ _ ?_ (fun hHeld => ?_)
          · exact ⟨keepc (by go_grown) hlt b0, keepc (by go_grown) hbr c0, keepc (by go_grown) hbn n6, keepc (by go_grown) hbn n7⟩
          clear hK K
          (try simp only [Act.put, List.setIfInBounds_toArray, List.set_cons_zero, List.set_cons_succ])
          refine tL 9 (some 21) ?_
          refine tL 10 (some 22) ?_
          refine tL 11 (some 23) ?_
          refine tL 12 (some 24) ?_
          refine tL 13 (some 25) ?_
          refine tL 14 (some 26) ?_
          refine tL 15 (some 27) ?_
          refine tL 16 (some 28) ?_
          refine tL 17 (some 29) ?_
          refine tL 18 (some 30) ?_
          refine tL 19 (some 31) ?_
          refine wpAnyH_ready (rs := [20]) (by kernel_rfl) (by simp) ?_
          refine AllReadyH.cons (o := _) rfl (fun K hK => ?_) AllReadyH.nil
          go_simp
          refine (c_l2Word _ _).mono ?_; rintro e w' ⟨rfl, rfl⟩
          (try go_wp2_with fail)
          (try clear hHeld)
          refine hK.out _ _ ?_ (fun hHeld => ?_)
          · exact ⟨keepc (by go_grown) hlt b0, keepc (by go_grown) hbr c0, keepc (by go_grown) hbn n6, keepc (by go_grown) hbn n7⟩
          clear hK K
          (try simp only [Act.put, List.setIfInBounds_toArray, List.set_cons_zero, List.set_cons_succ])
          refine tL 21 (some 33) ?_
          refine tL 22 (some 34) ?_
          refine wpAnyH_done (by kernel_rfl) ?_ _
          go_wp2_with fail
          go_ret
          exact ⟨BoolIs.no (fun h => HNP.out (h k (by omega))), below_drew (HB.out.trans (by go_grown))⟩
    · have hki : ¬ (k : Int) < len := by omega
      go_wp2_with fail
      go_ret
      exact ⟨BoolIs.yes (fun t ht => HNO.out t (by omega)), HB.out⟩
end Go.Proofs.YtbkcecilbpngcaaGreat
