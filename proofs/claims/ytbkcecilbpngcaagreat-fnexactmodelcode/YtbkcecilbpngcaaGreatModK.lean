/-
  The bits of a kind, too many of something, properties: the program.
-/
import Derived.Test.YtbkcecilbpngcaaGreatRows
import Derived.Test.YtbkcecilbpngcaaGreatPaA
import Derived.Test.YtbkcecilbpngcaaGreatNodeM
import Derived.Test.YtbkcecilbpngcaaGreatNames
import Derived.Test.YtbkcecilbpngcaaGreatNodeL
import Derived.Test.YtbkcecilbpngcaaGreatResP
import Derived.Test.YtbkcecilbpngcaaGreatNSortI
import Derived.Test.YtbkcecilbpngcaaGreatModD
import Derived.Test.YtbkcecilbpngcaaGreatModA
import Derived.Test.YtbkcecilbpngcaaGreatModB
import Derived.Test.YtbkcecilbpngcaaGreatModE
import Derived.Test.YtbkcecilbpngcaaGreatModF
import Derived.WalkKit
import Derived.ProofKit
import Derived.OpenShut
import Derived.WalkSpells
import Derived.WalkLawsBesides
import Derived.Outline
import Derived.BigQuiet
import Derived.Handy
import Derived.LoopTactic
import Derived.Deep.Light
import Derived.Deep.RegionWith
import Derived.Deep.RegionHeld3
import Derived.Deep.DeepCutAuto
import Derived.Lib.Hide
namespace Go.Proofs.YtbkcecilbpngcaaGreat
open Go.ChangeShapes Go.WideShapes Go.ChangeAt Go.RowKit
set_option linter.unusedVariables false
set_option maxRecDepth 100000


set_option maxHeartbeats 4000000 in
theorem c_kindBits {B : Nat} {a : Option Addr} {len cap : Nat} {ns : List ND} (kind : Int) (w : World) (hBw : B ≤ w.heap.size) (h : NodesAt B w a len cap ns) (h60 : len ≤ 60) :
    Calls Tryz.prog 38 #[.slice a len cap, .int .i64 kind] w fun e w' => e = .returned (.int .i64 (allBits kind ns)) ∧ Below w.heap.size w w' := by
  have HN := Go.Lib.hid h
  have hlen : ns.length = len := h.1
  clear h
  go_enter Tryz.func38, Tryz.ntmps38
  go_wp2_with fail
  go_loopw [5, 10] (fun n i wr => ∃ k : Nat, k ≤ len ∧ i = .int .i64 k ∧ n = .int .i64 (allBits kind (ns.take k)) ∧ Below w.heap.size w wr) (fun _ i _ => len - (intOf i).toNat)
  case atStart => exact ⟨0, by omega, rfl, rfl, Below.refl _ _⟩
  case round =>
    obtain ⟨k, hk, rfl, rfl, hBk⟩ := hrel
    have HB := Go.Lib.hid hBk
    clear hBk
    by_cases hkl : k < len
    · have hki : (k : Int) < len := by omega
      obtain ⟨nd, hkn, b, off, hnd, hok, rfl, hbB, hc⟩ := node_at ((HN.out.rows.below (HB.out.mono hBw)).nodes) hkl
      obtain ⟨c0, c1, c2, c3, c4, c5, c6, c7, c8⟩ := node_cells hc
      have hstep := allBits_take kind ns k hkn
      rw [← hnd] at hstep
      have hr1 := allBits_range kind (ns.take k)
      have hr2 := kb_range kind nd
      have hr3 : (ns.take k).length ≤ 60 := by simp; omega
      clear hc hnd
      have HX := Go.Lib.hid HB.out.size
      by_cases hkk : nd.kind = kind
      · rw [kb_yes hkk] at hstep hr2
        go_wp2_with (first | (go_at_call 72; refine (c_SortBitsI _ _ _).mono ?_; rintro e w1 ⟨rfl, hB1⟩))
        have hw : wrap64 (allBits kind (ns.take k) + bitsN nd.si nd.sw) = allBits kind (ns.take (k + 1)) := by rw [hstep]; exact IntWalk.wrap64_in _ (by omega)
        have HB2 := Go.Lib.hid (HB.out.trans (Below.mono (bstep (show Below wr.heap.size wr _ by go_grown) (Nat.le_refl _) hB1) HB.out.size))
        clear hB1 c0 c1 c2 c3 c4 c5 c6 c7 c8
        go_wp2_with fail
        go_roundw
        case rel => exact ⟨k + 1, by omega, by go_num, by rw [hstep], HB2.out⟩
        case measure => simp [intOf]; omega
      · rw [kb_no hkk] at hstep
        go_wp2_with fail
        go_roundw
        case rel => exact ⟨k + 1, by omega, by go_num, by rw [hstep]; simp, HB.out.trans (Below.mono (show Below wr.heap.size wr _ by go_grown) HB.out.size)⟩
        case measure => simp [intOf]; omega
    · have hki : ¬ (k : Int) < len := by omega
      have hke : ns.take k = ns := List.take_of_length_le (by omega)
      rw [hke]
      go_wp2_with fail
      go_ret
      exact ⟨rfl, HB.out⟩

def tooMany (s0 s1 s2 s3 s4 : SL) : Prop := 60 < s0.len ∨ 60 < s1.len ∨ 60 < s2.len ∨ 4 < s3.len ∨ 4 < s4.len
set_option maxHeartbeats 4000000 in
theorem c_hasTooMany {B : Nat} {s0 s1 s2 s3 s4 : SL} {M : MD} (w : World) (h : ModelAt B w s0 s1 s2 s3 s4 M) :
    Calls Tryz.prog 31 #[.agg (mcells s0 s1 s2 s3 s4).toArray] w fun e w' => BoolIs (tooMany s0 s1 s2 s3 s4) e ∧ Below w.heap.size w w' := by
  obtain ⟨a0, l0, p0⟩ := s0
  obtain ⟨a1, l1, p1⟩ := s1
  obtain ⟨a2, l2, p2⟩ := s2
  obtain ⟨a3, l3, p3⟩ := s3
  obtain ⟨a4, l4, p4⟩ := s4
  clear h
  simp only [mcells]
  by_cases h0 : 60 < l0
  · have j0 : ((60 : Int) < l0) = True := by simp; omega
    have HT := Go.Lib.hid (show tooMany ⟨a0, l0, p0⟩ ⟨a1, l1, p1⟩ ⟨a2, l2, p2⟩ ⟨a3, l3, p3⟩ ⟨a4, l4, p4⟩ from .inl h0)
    go_enter Tryz.func31, Tryz.ntmps31
    go_wp2_with fail
    go_ret
    exact ⟨BoolIs.yes HT.out, by go_grown⟩
  have j0 : ((60 : Int) < l0) = False := by simp; omega
  by_cases h1 : 60 < l1
  · have j1 : ((60 : Int) < l1) = True := by simp; omega
    have HT := Go.Lib.hid (show tooMany ⟨a0, l0, p0⟩ ⟨a1, l1, p1⟩ ⟨a2, l2, p2⟩ ⟨a3, l3, p3⟩ ⟨a4, l4, p4⟩ from .inr (.inl h1))
    go_enter Tryz.func31, Tryz.ntmps31
    go_wp2_with fail
    go_ret
    exact ⟨BoolIs.yes HT.out, by go_grown⟩
  have j1 : ((60 : Int) < l1) = False := by simp; omega
  by_cases h2 : 60 < l2
  · have j2 : ((60 : Int) < l2) = True := by simp; omega
    have HT := Go.Lib.hid (show tooMany ⟨a0, l0, p0⟩ ⟨a1, l1, p1⟩ ⟨a2, l2, p2⟩ ⟨a3, l3, p3⟩ ⟨a4, l4, p4⟩ from .inr (.inr (.inl h2)))
    go_enter Tryz.func31, Tryz.ntmps31
    go_wp2_with fail
    go_ret
    exact ⟨BoolIs.yes HT.out, by go_grown⟩
  have j2 : ((60 : Int) < l2) = False := by simp; omega
  by_cases h3 : 4 < l3
  · have j3 : ((4 : Int) < l3) = True := by simp; omega
    have HT := Go.Lib.hid (show tooMany ⟨a0, l0, p0⟩ ⟨a1, l1, p1⟩ ⟨a2, l2, p2⟩ ⟨a3, l3, p3⟩ ⟨a4, l4, p4⟩ from .inr (.inr (.inr (.inl h3))))
    go_enter Tryz.func31, Tryz.ntmps31
    go_wp2_with fail
    go_ret
    exact ⟨BoolIs.yes HT.out, by go_grown⟩
  have j3 : ((4 : Int) < l3) = False := by simp; omega
  by_cases h4 : 4 < l4
  · have j4 : ((4 : Int) < l4) = True := by simp; omega
    have HT := Go.Lib.hid (show tooMany ⟨a0, l0, p0⟩ ⟨a1, l1, p1⟩ ⟨a2, l2, p2⟩ ⟨a3, l3, p3⟩ ⟨a4, l4, p4⟩ from .inr (.inr (.inr (.inr (h4)))))
    go_enter Tryz.func31, Tryz.ntmps31
    go_wp2_with fail
    go_ret
    exact ⟨BoolIs.yes HT.out, by go_grown⟩
  have j4 : ((4 : Int) < l4) = False := by simp; omega
  have HT := Go.Lib.hid (show ¬ tooMany ⟨a0, l0, p0⟩ ⟨a1, l1, p1⟩ ⟨a2, l2, p2⟩ ⟨a3, l3, p3⟩ ⟨a4, l4, p4⟩ from fun hh => by rcases hh with h | h | h | h | h <;> simp only at h <;> omega)
  go_enter Tryz.func31, Tryz.ntmps31
  go_wp2_with fail
  go_ret
  exact ⟨BoolIs.no HT.out, by go_grown⟩

set_option maxHeartbeats 4000000 in
theorem c_hasBadProp {B : Nat} {a0 : Option Addr} {l0 p0 : Nat} {ns : List ND} {a : Option Addr} {len cap : Nat} {ps : List Int} (w : World) (hBw : B ≤ w.heap.size) (h : NodesAt B w a0 l0 p0 ns) (hp : IntsAt B w a len cap ps) :
    Calls Tryz.prog 37 #[.slice a0 l0 p0, .slice a len cap] w fun e w' => BoolIs (¬ propsOk ns ps) e ∧ Below w.heap.size w w' := by
  have HN := Go.Lib.hid h
  have HP := Go.Lib.hid hp
  have hl0 : ns.length = l0 := h.1
  have hlen : ps.length = len := hp.1
  have hml : l0 ≤ maxLen := Nat.le_trans h.2.1 h.2.2.1
  have hm := Nat.le_trans hp.2.1 hp.2.2.1
  have hm0 := hml
  unfold maxLen at hm hm0
  clear h hp
  go_enter Tryz.func37, Tryz.ntmps37
  go_wp2_with fail
  go_loopw [9] (fun i wr => ∃ t : Nat, t ≤ len ∧ i = .int .i64 t ∧ (∀ y, y < t → propOk1 ns (ps.getD y 0)) ∧ Below w.heap.size w wr) (fun i _ => len - (intOf i).toNat)
  case atStart => exact ⟨0, by omega, rfl, fun t h => by omega, Below.refl _ _⟩
  case round =>
    obtain ⟨t, ht, rfl, hno, hBk⟩ := hrel
    have HNO := Go.Lib.hid hno
    have HB := Go.Lib.hid hBk
    have hsz := hBk.size
    clear hno hBk
    by_cases htl : t < len
    · have hti : (t : Int) < len := by omega
      obtain ⟨p, b1, o1, hpe, hpf, rfl, hbB1, e0⟩ := int_at (HP.out.below (HB.out.mono hBw)) htl
      have HPE := Go.Lib.hid hpe
      clear hpe
      by_cases hpl : 0 ≤ p ∧ p < l0
      · obtain ⟨q, rfl⟩ : ∃ q : Nat, p = q := ⟨p.toNat, by omega⟩
        have hdp : decide (0 ≤ (q : Int) ∧ (q : Int) < l0) = true := by simpa using hpl
        have hql : (q : Int) < l0 := hpl.2
        obtain ⟨i1, w1, b, off, hs, rfl, hbB, d6, d7⟩ := node_sort ((HN.out.rows.below (HB.out.mono hBw)).nodes) (show q < l0 by omega)
        have hbr : b < wr.heap.size := Nat.lt_of_lt_of_le hbB (Nat.le_trans hBw hsz)
        have HS := Go.Lib.hid hs
        clear hs hpl
        by_cases hi : i1 = 0
        · subst hi
          by_cases hw : w1 = 1
          · subst hw
            have HY := Go.Lib.hid (show ∀ y, y < t + 1 → propOk1 ns (ps.getD y 0) from fun y hy => by
              rcases Nat.lt_or_ge y t with h | h
              · exact HNO.out y h
              · obtain rfl : y = t := by omega
                rw [HPE.out]; exact ⟨by omega, by omega, HS.out⟩)
            go_wp2_with fail
            clear e0
            refine wp_region_held_drew (S := (fun w' => w'.cell? ⟨b, off + q * 9 + 6, none⟩ = some (.int .i64 0) ∧ w'.cell? ⟨b, off + q * 9 + 7, none⟩ = some (.int .i64 1))) (by kernel_rfl) ?_ (fun hHeld => ?_)
            · exact ⟨keepc (by go_grown) hbr d6, keepc (by go_grown) hbr d7⟩
            refine tL 0 (some 13) ?_
            refine tL 1 (some 14) ?_
            refine wpAnyH_ready (rs := [2]) (by kernel_rfl) (by simp) ?_
            refine AllReadyH.cons (o := _) rfl (fun K hK => ?_) AllReadyH.nil
            go_simp
            refine (c_placeOk hml _ _).mono ?_; rw [hdp]; rintro e w' ⟨rfl, rfl⟩
            (try go_wp2_with fail)
            (try clear hHeld)
            refine hK.out _ _ ?_ (fun hHeld => ?_)
            · exact ⟨keepc (by go_grown) hbr d6, keepc (by go_grown) hbr d7⟩
            clear hK K
            (try simp only [Act.put, List.setIfInBounds_toArray, List.set_cons_zero, List.set_cons_succ])
            refine tL 3 (some 16) ?_
            refine tL 4 (some 17) ?_
            refine tL 5 (some 18) ?_
            refine tL 6 (some 19) ?_
            refine tL 7 (some 20) ?_
            refine tL 8 (some 21) ?_
            refine tL 9 (some 22) ?_
            refine wpAnyH_ready (rs := [10]) (by kernel_rfl) (by simp) ?_
            refine AllReadyH.cons (o := _) rfl (fun K hK => ?_) AllReadyH.nil
            go_simp
            refine (c_wordSort _ _).mono ?_; rintro e w' ⟨rfl, rfl⟩
            (try go_wp2_with fail)
            (try clear hHeld)
            refine hK.out _ _ ?_ (fun hHeld => ?_)
            · exact ⟨keepc (by go_grown) hbr d6, keepc (by go_grown) hbr d7⟩
            clear hK K
            (try simp only [Act.put, List.setIfInBounds_toArray, List.set_cons_zero, List.set_cons_succ])
            refine tL 11 (some 24) ?_
            refine tL 12 (some 25) ?_
            refine wpAnyH_done (by kernel_rfl) ?_ _
            clear hHeld
            go_wp2_with fail
            go_roundw
            case rel => exact ⟨t + 1, by omega, by go_num, HY.out, HB.out.trans (Below.mono (show Below wr.heap.size wr _ by go_grown) HB.out.size)⟩
            case measure => simp [intOf] <;> omega
          · have q2 : (w1 == 1) = false := by simpa using hw
            have HNP := Go.Lib.hid (show ¬ propOk1 ns (ps.getD t 0) from fun hh => by rw [HPE.out] at hh; have h4 := hh.2.2; rw [HS.out] at h4; simp only [Prod.mk.injEq] at h4; exact hw h4.2)
            go_wp2_with fail
            clear e0
            refine wp_region_held_drew (S := (fun w' => w'.cell? ⟨b, off + q * 9 + 6, none⟩ = some (.int .i64 0) ∧ w'.cell? ⟨b, off + q * 9 + 7, none⟩ = some (.int .i64 w1))) (by kernel_rfl) ?_ (fun hHeld => ?_)
            · exact ⟨keepc (by go_grown) hbr d6, keepc (by go_grown) hbr d7⟩
            refine tL 0 (some 13) ?_
            refine tL 1 (some 14) ?_
            refine wpAnyH_ready (rs := [2]) (by kernel_rfl) (by simp) ?_
            refine AllReadyH.cons (o := _) rfl (fun K hK => ?_) AllReadyH.nil
            go_simp
            refine (c_placeOk hml _ _).mono ?_; rw [hdp]; rintro e w' ⟨rfl, rfl⟩
            (try go_wp2_with fail)
            (try clear hHeld)
            refine hK.out _ _ ?_ (fun hHeld => ?_)
            · exact ⟨keepc (by go_grown) hbr d6, keepc (by go_grown) hbr d7⟩
            clear hK K
            (try simp only [Act.put, List.setIfInBounds_toArray, List.set_cons_zero, List.set_cons_succ])
            refine tL 3 (some 16) ?_
            refine tL 4 (some 17) ?_
            refine tL 5 (some 18) ?_
            refine tL 6 (some 19) ?_
            refine tL 7 (some 20) ?_
            refine tL 8 (some 21) ?_
            refine tL 9 (some 22) ?_
            refine wpAnyH_ready (rs := [10]) (by kernel_rfl) (by simp) ?_
            refine AllReadyH.cons (o := _) rfl (fun K hK => ?_) AllReadyH.nil
            go_simp
            refine (c_wordSort _ _).mono ?_; rintro e w' ⟨rfl, rfl⟩
            (try go_wp2_with fail)
            (try clear hHeld)
            refine hK.out _ _ ?_ (fun hHeld => ?_)
            · exact ⟨keepc (by go_grown) hbr d6, keepc (by go_grown) hbr d7⟩
            clear hK K
            (try simp only [Act.put, List.setIfInBounds_toArray, List.set_cons_zero, List.set_cons_succ])
            refine tL 11 (some 24) ?_
            refine tL 12 (some 25) ?_
            refine wpAnyH_done (by kernel_rfl) ?_ _
            clear hHeld
            go_wp2_with fail
            go_ret
            exact ⟨BoolIs.yes (fun hall => HNP.out (hall t (by omega))), HB.out.trans (Below.mono (show Below wr.heap.size wr _ by go_grown) HB.out.size)⟩
        · have q2 : (i1 == 0) = false := by simpa using hi
          have HNP := Go.Lib.hid (show ¬ propOk1 ns (ps.getD t 0) from fun hh => by rw [HPE.out] at hh; have h4 := hh.2.2; rw [HS.out] at h4; simp only [Prod.mk.injEq] at h4; exact hi h4.1)
          go_wp2_with fail
          clear e0
          refine wp_region_held_drew (S := (fun w' => w'.cell? ⟨b, off + q * 9 + 6, none⟩ = some (.int .i64 i1) ∧ w'.cell? ⟨b, off + q * 9 + 7, none⟩ = some (.int .i64 w1))) (by kernel_rfl) ?_ (fun hHeld => ?_)
          · exact ⟨keepc (by go_grown) hbr d6, keepc (by go_grown) hbr d7⟩
          refine tL 0 (some 13) ?_
          refine tL 1 (some 14) ?_
          refine wpAnyH_ready (rs := [2]) (by kernel_rfl) (by simp) ?_
          refine AllReadyH.cons (o := _) rfl (fun K hK => ?_) AllReadyH.nil
          go_simp
          refine (c_placeOk hml _ _).mono ?_; rw [hdp]; rintro e w' ⟨rfl, rfl⟩
          (try go_wp2_with fail)
          (try clear hHeld)
          refine hK.out _ _ ?_ (fun hHeld => ?_)
          · exact ⟨keepc (by go_grown) hbr d6, keepc (by go_grown) hbr d7⟩
          clear hK K
          (try simp only [Act.put, List.setIfInBounds_toArray, List.set_cons_zero, List.set_cons_succ])
          refine tL 3 (some 16) ?_
          refine tL 4 (some 17) ?_
          refine tL 5 (some 18) ?_
          refine tL 6 (some 19) ?_
          refine tL 7 (some 20) ?_
          refine tL 8 (some 21) ?_
          refine tL 9 (some 22) ?_
          refine wpAnyH_ready (rs := [10]) (by kernel_rfl) (by simp) ?_
          refine AllReadyH.cons (o := _) rfl (fun K hK => ?_) AllReadyH.nil
          go_simp
          refine (c_wordSort _ _).mono ?_; rintro e w' ⟨rfl, rfl⟩
          (try go_wp2_with fail)
          (try clear hHeld)
          refine hK.out _ _ ?_ (fun hHeld => ?_)
          · exact ⟨keepc (by go_grown) hbr d6, keepc (by go_grown) hbr d7⟩
          clear hK K
          (try simp only [Act.put, List.setIfInBounds_toArray, List.set_cons_zero, List.set_cons_succ])
          refine tL 11 (some 24) ?_
          refine tL 12 (some 25) ?_
          refine wpAnyH_done (by kernel_rfl) ?_ _
          clear hHeld
          go_wp2_with fail
          go_ret
          exact ⟨BoolIs.yes (fun hall => HNP.out (hall t (by omega))), HB.out.trans (Below.mono (show Below wr.heap.size wr _ by go_grown) HB.out.size)⟩
      · have hdp : decide (0 ≤ p ∧ p < l0) = false := by simpa using hpl
        have HNP := Go.Lib.hid (show ¬ propOk1 ns (ps.getD t 0) from fun hh => hpl (by rw [HPE.out] at hh; exact ⟨hh.1, by have := hh.2.1; omega⟩))
        clear hpl
        go_wp2_with fail
        clear e0
        refine wp_region_held_drew (S := (fun _ => True)) (by kernel_rfl) ?_ (fun hHeld => ?_)
        · trivial
        refine tL 0 (some 13) ?_
        refine tL 1 (some 14) ?_
        refine wpAnyH_ready (rs := [2]) (by kernel_rfl) (by simp) ?_
        refine AllReadyH.cons (o := _) rfl (fun K hK => ?_) AllReadyH.nil
        go_simp
        refine (c_placeOk hml _ _).mono ?_; rw [hdp]; rintro e w' ⟨rfl, rfl⟩
        (try go_wp2_with fail)
        (try clear hHeld)
        refine hK.out _ _ ?_ (fun hHeld => ?_)
        · trivial
        clear hK K
        (try simp only [Act.put, List.setIfInBounds_toArray, List.set_cons_zero, List.set_cons_succ])
        refine tL 3 (some 16) ?_
        refine tL 4 (some 17) ?_
        refine tU 5 (some 18) ?_
        refine tU 6 (some 19) ?_
        refine tU 7 (some 20) ?_
        refine tU 8 (some 21) ?_
        refine tU 9 (some 22) ?_
        refine tU 10 (some 23) ?_
        refine tU 11 (some 24) ?_
        refine tL 12 (some 25) ?_
        refine wpAnyH_done (by kernel_rfl) ?_ _
        clear hHeld
        go_wp2_with fail
        go_ret
        exact ⟨BoolIs.yes (fun hall => HNP.out (hall t (by omega))), HB.out.trans (Below.mono (show Below wr.heap.size wr _ by go_grown) HB.out.size)⟩
    · have hti : ¬ (t : Int) < len := by omega
      go_wp2_with fail
      go_ret
      exact ⟨BoolIs.no (fun hh => hh (fun y hy => HNO.out y (by omega))), HB.out⟩
end Go.Proofs.YtbkcecilbpngcaaGreat
