/-
  Whether a node is not well formed: the program.
-/
import Derived.Test.YtbkcecilbpngcaaGreatRows
import Derived.Test.YtbkcecilbpngcaaGreatPaA
import Derived.Test.YtbkcecilbpngcaaGreatNodeM
import Derived.Test.YtbkcecilbpngcaaGreatNames
import Derived.Test.YtbkcecilbpngcaaGreatFieldsS
import Derived.Test.YtbkcecilbpngcaaGreatNodeL
import Derived.Test.YtbkcecilbpngcaaGreatResP
import Derived.Test.YtbkcecilbpngcaaGreatNSortS
import Derived.Test.YtbkcecilbpngcaaGreatKSortP
import Derived.Test.YtbkcecilbpngcaaGreatNSortJ
import Derived.Test.YtbkcecilbpngcaaGreatModD
import Derived.Test.YtbkcecilbpngcaaGreatModA
import Derived.Test.YtbkcecilbpngcaaGreatModB
import Derived.Test.YtbkcecilbpngcaaGreatModF
import Derived.WalkKit
import Derived.ProofKit
import Derived.OpenShut
import Derived.WalkSpells
import Derived.WalkLawsBesides
import Derived.Outline
import Derived.BigQuiet
import Derived.Handy
import Derived.LoopTactic
import Derived.Deep.Light
import Derived.Deep.RegionWith
import Derived.Deep.RegionHeld3
import Derived.Deep.DeepCutAuto
import Derived.Lib.Hide
namespace Go.Proofs.YtbkcecilbpngcaaGreat
open Go.ChangeShapes Go.WideShapes Go.ChangeAt Go.RowKit
set_option linter.unusedVariables false
set_option maxRecDepth 100000


theorem keep9 {g : Nat} {v0 v1 v2 v3 v4 v5 v6 v7 v8 : Value} {w w' : World} (hb : Below w.heap.size w w') (hl : g < w.heap.size) (y0 : w.cell? ⟨g, 0, none⟩ = some v0) (y1 : w.cell? ⟨g, 1, none⟩ = some v1) (y2 : w.cell? ⟨g, 2, none⟩ = some v2) (y3 : w.cell? ⟨g, 3, none⟩ = some v3) (y4 : w.cell? ⟨g, 4, none⟩ = some v4) (y5 : w.cell? ⟨g, 5, none⟩ = some v5) (y6 : w.cell? ⟨g, 6, none⟩ = some v6) (y7 : w.cell? ⟨g, 7, none⟩ = some v7) (y8 : w.cell? ⟨g, 8, none⟩ = some v8) :
    w'.cell? ⟨g, 0, none⟩ = some v0 ∧ w'.cell? ⟨g, 1, none⟩ = some v1 ∧ w'.cell? ⟨g, 2, none⟩ = some v2 ∧ w'.cell? ⟨g, 3, none⟩ = some v3 ∧ w'.cell? ⟨g, 4, none⟩ = some v4 ∧ w'.cell? ⟨g, 5, none⟩ = some v5 ∧ w'.cell? ⟨g, 6, none⟩ = some v6 ∧ w'.cell? ⟨g, 7, none⟩ = some v7 ∧ w'.cell? ⟨g, 8, none⟩ = some v8 :=
  ⟨keepc hb hl y0, keepc hb hl y1, keepc hb hl y2, keepc hb hl y3, keepc hb hl y4, keepc hb hl y5, keepc hb hl y6, keepc hb hl y7, keepc hb hl y8⟩
set_option maxHeartbeats 8000000 in
theorem c_hasBadNode {B : Nat} {a0 : Option Addr} {l0 p0 : Nat} {ns : List ND} (w : World) (hBw : B ≤ w.heap.size) (h : NodesAt B w a0 l0 p0 ns) :
    Calls Tryz.prog 32 #[.slice a0 l0 p0] w fun e w' => BoolIs (¬ nodesGood ns) e ∧ Below w.heap.size w w' := by
  have HN := Go.Lib.hid h
  have hl0 : ns.length = l0 := h.1
  have hcap := h.2.1
  have hm := Nat.le_trans h.2.1 h.2.2.1
  unfold maxLen at hm
  clear h
  go_enter Tryz.func32, Tryz.ntmps32
  go_wp2_with fail
  go_loopw [9] (fun i wr => ∃ k : Nat, k ≤ l0 ∧ i = .int .i64 k ∧ (∀ t, t < k → nodeGood (ns.take t) (ns.getD t default)) ∧ Below w.heap.size w wr) (fun i _ => l0 - (intOf i).toNat)
  case atStart => exact ⟨0, by omega, rfl, fun t h => by omega, Below.refl _ _⟩
  case round =>
    obtain ⟨k, hk, rfl, hno, hBk⟩ := hrel
    have HNO := Go.Lib.hid hno
    have HB := Go.Lib.hid hBk
    clear hno hBk
    by_cases hkl : k < l0
    · have hki : (k : Int) < l0 := by omega
      have hkp : (k : Int) ≤ p0 := by omega
      have h1B : B ≤ wr.heap.size := Nat.le_trans hBw HB.out.size
      have hNr := (HN.out.rows.below (HB.out.mono hBw)).nodes
      have HNR := Go.Lib.hid hNr
      obtain ⟨nd, hkn, b, off, hnd, hok, rfl, hbB, hc⟩ := node_at hNr hkl
      have hg : ns.getD k default = nd := by simp [List.getD, hkn, hnd]
      obtain ⟨c0, c1, c2, c3, c4, c5, c6, c7, c8⟩ := node_cells hc
      have hx : nd.name.size ≤ maxLen := hok.2.2.2.2.2.2.2.2
      clear hc hnd hok hNr
      obtain ⟨k0, pa, pb, pc, n, m, si, sw, nm⟩ := nd
      have HG := Go.Lib.hid hg
      clear hg
      simp only at c0 c1 c2 c3 c4 c5 c6 c7 c8 hx
      obtain ⟨u, v, huv⟩ : ∃ u v, nSort (ns.take k) ⟨k0, pa, pb, pc, n, m, si, sw, nm⟩ = (u, v) := ⟨_, _, rfl⟩
      obtain ⟨d, hd⟩ : ∃ d, decide (nOk (ns.take k) ⟨k0, pa, pb, pc, n, m, si, sw, nm⟩) = d := ⟨_, rfl⟩
      have HUV := Go.Lib.hid huv
      have HD := Go.Lib.hid hd
      clear huv hd
      go_upto_region 4 with fail
      refine code_gen (R := fun wb => wb.cell? ⟨wr.heap.size, 0, none⟩ = some (.int .i64 k0) ∧ wb.cell? ⟨wr.heap.size, 1, none⟩ = some (.int .i64 pa) ∧ wb.cell? ⟨wr.heap.size, 2, none⟩ = some (.int .i64 pb) ∧ wb.cell? ⟨wr.heap.size, 3, none⟩ = some (.int .i64 pc) ∧ wb.cell? ⟨wr.heap.size, 4, none⟩ = some (.int .i64 n) ∧ wb.cell? ⟨wr.heap.size, 5, none⟩ = some (.int .i64 m) ∧ wb.cell? ⟨wr.heap.size, 6, none⟩ = some (.int .i64 si) ∧ wb.cell? ⟨wr.heap.size, 7, none⟩ = some (.int .i64 sw) ∧ wb.cell? ⟨wr.heap.size, 8, none⟩ = some (.string nm) ∧ wr.heap.size < wb.heap.size ∧ Below wr.heap.size wr wb) ⟨by simp, by simp, by simp, by simp, by simp, by simp, by simp, by simp, by simp, by simp, by go_grown⟩ ?_
      clear c0 c1 c2 c3 c4 c5 c6 c7 c8
      rintro wb ⟨c0, c1, c2, c3, c4, c5, c6, c7, c8, hgl, hBb0⟩
      have hBb : B ≤ wb.heap.size := Nat.le_trans h1B hBb0.size
      have HBB := Go.Lib.hid (HB.out.trans (hBb0.mono HB.out.size))
      have HNK := Go.Lib.hid ((((HNR.out.rows.below (hBb0.mono h1B)).nodes)).take (Nat.le_of_lt hkl))
      generalize hgg : wr.heap.size = g at *
      clear hBb0 hgg HNR HB
      refine wp_region_held_drew (S := (fun w' => w'.cell? ⟨g, 0, none⟩ = some (.int .i64 k0) ∧ w'.cell? ⟨g, 1, none⟩ = some (.int .i64 pa) ∧ w'.cell? ⟨g, 2, none⟩ = some (.int .i64 pb) ∧ w'.cell? ⟨g, 3, none⟩ = some (.int .i64 pc) ∧ w'.cell? ⟨g, 4, none⟩ = some (.int .i64 n) ∧ w'.cell? ⟨g, 5, none⟩ = some (.int .i64 m) ∧ w'.cell? ⟨g, 6, none⟩ = some (.int .i64 si) ∧ w'.cell? ⟨g, 7, none⟩ = some (.int .i64 sw) ∧ w'.cell? ⟨g, 8, none⟩ = some (.string nm))) (by kernel_rfl) ?_ (fun hHeld => ?_)
      · exact keep9 (by go_grown) hgl c0 c1 c2 c3 c4 c5 c6 c7 c8
      refine tL 0 (some 15) ?_
      refine tL 1 (some 16) ?_
      refine tL 2 (some 17) ?_
      refine tL 3 (some 18) ?_
      refine wpAnyH_ready (rs := [4, 8]) (by kernel_rfl) (by simp) ?_
      refine AllReadyH.cons (o := _) rfl (fun K hK => ?_) ?_
      · go_simp
        refine (c_NodeSortI ⟨k0, pa, pb, pc, n, m, si, sw, nm⟩ hx _ (Nat.le_trans hBb (by go_size)) (NodesAt.below HNK.out (Below.mono (show Below wb.heap.size wb _ by go_grown) hBb))).mono ?_; intro e w4 hq; obtain ⟨rfl, hB4⟩ := nsp_is HUV.out HD.out hq; clear hq; (try (with_reducible have hZ := ZB.below (ZB.newD wb) hB4)); have hb4 : Below wb.heap.size wb w4 := bstep (by go_grown) (Nat.le_refl _) hB4; have ht4 := hb4.size; clear hB4; (try (obtain ⟨kE, kA, kB, kC, kD⟩ := hZ))
        (try go_wp2_with fail)
        (try clear hHeld)
        refine hK.out _ _ ?_ (fun hHeld => ?_)
        · exact keep9 (by go_grown) hgl c0 c1 c2 c3 c4 c5 c6 c7 c8
        clear hK K
        (try simp only [Act.put, List.setIfInBounds_toArray, List.set_cons_zero, List.set_cons_succ])
        refine tL 5 (some 14) ?_
        refine tL 6 (some 20) ?_
        refine tL 7 (some 21) ?_
        refine wpAnyH_ready (rs := [8]) (by kernel_rfl) (by simp) ?_
        refine AllReadyH.cons (o := _) rfl (fun K hK => ?_) AllReadyH.nil
        go_simp
        (try clear hHeld)
        refine hK.out _ _ ?_ (fun hHeld => ?_)
        · exact keep9 (by go_grown) hgl c0 c1 c2 c3 c4 c5 c6 c7 c8
        clear hK K
        (try simp only [Act.put, List.setIfInBounds_toArray, List.set_cons_zero, List.set_cons_succ])
        refine wpAnyH_ready (rs := [9]) (by kernel_rfl) (by simp) ?_
        refine AllReadyH.cons (o := _) rfl (fun K hK => ?_) AllReadyH.nil
        go_simp
        (try clear hHeld)
        refine hK.out _ _ ?_ (fun hHeld => ?_)
        · exact keep9 (by go_grown) hgl c0 c1 c2 c3 c4 c5 c6 c7 c8
        clear hK K
        (try simp only [Act.put, List.setIfInBounds_toArray, List.set_cons_zero, List.set_cons_succ])
        refine tL 10 (some 6) ?_
        refine wpAnyH_done (by kernel_rfl) ?_ _
        go_upto_region 5 with fail
        clear hHeld
        refine code_gen (R := fun wc => wc.cell? ⟨g, 6, none⟩ = some (.int .i64 si) ∧ wc.cell? ⟨g, 7, none⟩ = some (.int .i64 sw) ∧ wc.cell? ⟨w4.heap.size, 0, none⟩ = some (.int .i64 u) ∧ wc.cell? ⟨w4.heap.size, 1, none⟩ = some (.int .i64 v) ∧ Below wb.heap.size wb wc) ⟨keepc (by go_grown) hgl c6, keepc (by go_grown) hgl c7, by simp, by simp, by go_grown⟩ ?_
        clear c0 c1 c2 c3 c4 c5 c6 c7 c8 hb4 ht4
        (try clear kE kA kB kC kD)
        rintro wc ⟨c6, c7, e0, e1, hBc⟩
        have HBC := Go.Lib.hid hBc
        clear hBc
        cases d
        · go_wp2_with fail
          go_ret
          exact ⟨BoolIs.yes (fun hall => by have hgd := hall k (by omega); rw [HG.out] at hgd; have := HD.out; simp only [decide_eq_false_iff_not] at this; exact this hgd.1), HBB.out.trans (HBC.out.mono HBB.out.size)⟩
        · by_cases hu : u = si
          · subst hu
            by_cases hv : v = sw
            · subst hv
              have HYES := Go.Lib.hid (show ∀ t, t < k + 1 → nodeGood (ns.take t) (ns.getD t default) from fun t ht => by
                rcases Nat.lt_or_ge t k with h | h
                · exact HNO.out t h
                · obtain rfl : t = k := by omega
                  rw [HG.out]; exact ⟨by have := HD.out; simpa using this, HUV.out⟩)
              go_wp2_with fail
              go_roundw
              case rel => exact ⟨k + 1, by omega, by go_num, HYES.out, HBB.out.trans (HBC.out.mono HBB.out.size)⟩
              case measure => simp [intOf] <;> omega
            · have q2 : (v == sw) = false := by simpa using hv
              go_wp2_with fail
              go_ret
              exact ⟨BoolIs.yes (fun hall => by have hgd := hall k (by omega); rw [HG.out] at hgd; have h2 := hgd.2; rw [HUV.out] at h2; simp only [Prod.mk.injEq] at h2; exact hv h2.2), HBB.out.trans (HBC.out.mono HBB.out.size)⟩
          · have q2 : (u == si) = false := by simpa using hu
            go_wp2_with fail
            go_ret
            exact ⟨BoolIs.yes (fun hall => by have hgd := hall k (by omega); rw [HG.out] at hgd; have h2 := hgd.2; rw [HUV.out] at h2; simp only [Prod.mk.injEq] at h2; exact hu h2.1), HBB.out.trans (HBC.out.mono HBB.out.size)⟩
      refine AllReadyH.cons (o := _) rfl (fun K hK => ?_) ?_
      · go_simp
        (try clear hHeld)
        refine hK.out _ _ ?_ (fun hHeld => ?_)
        · exact keep9 (by go_grown) hgl c0 c1 c2 c3 c4 c5 c6 c7 c8
        clear hK K
        (try simp only [Act.put, List.setIfInBounds_toArray, List.set_cons_zero, List.set_cons_succ])
        refine wpAnyH_ready (rs := [4]) (by kernel_rfl) (by simp) ?_
        refine AllReadyH.cons (o := _) rfl (fun K hK => ?_) AllReadyH.nil
        go_simp
        refine (c_NodeSortI ⟨k0, pa, pb, pc, n, m, si, sw, nm⟩ hx _ (Nat.le_trans hBb (by go_size)) (NodesAt.below HNK.out (Below.mono (show Below wb.heap.size wb _ by go_grown) hBb))).mono ?_; intro e w4 hq; obtain ⟨rfl, hB4⟩ := nsp_is HUV.out HD.out hq; clear hq; (try (with_reducible have hZ := ZB.below (ZB.newD wb) hB4)); have hb4 : Below wb.heap.size wb w4 := bstep (by go_grown) (Nat.le_refl _) hB4; have ht4 := hb4.size; clear hB4; (try (obtain ⟨kE, kA, kB, kC, kD⟩ := hZ))
        (try go_wp2_with fail)
        (try clear hHeld)
        refine hK.out _ _ ?_ (fun hHeld => ?_)
        · exact keep9 (by go_grown) hgl c0 c1 c2 c3 c4 c5 c6 c7 c8
        clear hK K
        (try simp only [Act.put, List.setIfInBounds_toArray, List.set_cons_zero, List.set_cons_succ])
        refine tL 5 (some 14) ?_
        refine tL 6 (some 20) ?_
        refine tL 7 (some 21) ?_
        refine wpAnyH_ready (rs := [9]) (by kernel_rfl) (by simp) ?_
        refine AllReadyH.cons (o := _) rfl (fun K hK => ?_) AllReadyH.nil
        go_simp
        (try clear hHeld)
        refine hK.out _ _ ?_ (fun hHeld => ?_)
        · exact keep9 (by go_grown) hgl c0 c1 c2 c3 c4 c5 c6 c7 c8
        clear hK K
        (try simp only [Act.put, List.setIfInBounds_toArray, List.set_cons_zero, List.set_cons_succ])
        refine tL 10 (some 6) ?_
        refine wpAnyH_done (by kernel_rfl) ?_ _
        go_upto_region 5 with fail
        clear hHeld
        refine code_gen (R := fun wc => wc.cell? ⟨g, 6, none⟩ = some (.int .i64 si) ∧ wc.cell? ⟨g, 7, none⟩ = some (.int .i64 sw) ∧ wc.cell? ⟨wb.heap.size, 0, none⟩ = some (.int .i64 u) ∧ wc.cell? ⟨wb.heap.size, 1, none⟩ = some (.int .i64 v) ∧ Below wb.heap.size wb wc) ⟨keepc (by go_grown) hgl c6, keepc (by go_grown) hgl c7, set2_0 kA, set2_1 kB, by go_grown⟩ ?_
        clear c0 c1 c2 c3 c4 c5 c6 c7 c8 hb4 ht4
        (try clear kE kA kB kC kD)
        rintro wc ⟨c6, c7, e0, e1, hBc⟩
        have HBC := Go.Lib.hid hBc
        clear hBc
        cases d
        · go_wp2_with fail
          go_ret
          exact ⟨BoolIs.yes (fun hall => by have hgd := hall k (by omega); rw [HG.out] at hgd; have := HD.out; simp only [decide_eq_false_iff_not] at this; exact this hgd.1), HBB.out.trans (HBC.out.mono HBB.out.size)⟩
        · by_cases hu : u = si
          · subst hu
            by_cases hv : v = sw
            · subst hv
              have HYES := Go.Lib.hid (show ∀ t, t < k + 1 → nodeGood (ns.take t) (ns.getD t default) from fun t ht => by
                rcases Nat.lt_or_ge t k with h | h
                · exact HNO.out t h
                · obtain rfl : t = k := by omega
                  rw [HG.out]; exact ⟨by have := HD.out; simpa using this, HUV.out⟩)
              go_wp2_with fail
              go_roundw
              case rel => exact ⟨k + 1, by omega, by go_num, HYES.out, HBB.out.trans (HBC.out.mono HBB.out.size)⟩
              case measure => simp [intOf] <;> omega
            · have q2 : (v == sw) = false := by simpa using hv
              go_wp2_with fail
              go_ret
              exact ⟨BoolIs.yes (fun hall => by have hgd := hall k (by omega); rw [HG.out] at hgd; have h2 := hgd.2; rw [HUV.out] at h2; simp only [Prod.mk.injEq] at h2; exact hv h2.2), HBB.out.trans (HBC.out.mono HBB.out.size)⟩
          · have q2 : (u == si) = false := by simpa using hu
            go_wp2_with fail
            go_ret
            exact ⟨BoolIs.yes (fun hall => by have hgd := hall k (by omega); rw [HG.out] at hgd; have h2 := hgd.2; rw [HUV.out] at h2; simp only [Prod.mk.injEq] at h2; exact hu h2.1), HBB.out.trans (HBC.out.mono HBB.out.size)⟩
      exact AllReadyH.nil
    · have hki : ¬ (k : Int) < l0 := by omega
      go_wp2_with fail
      go_ret
      exact ⟨BoolIs.no (fun hh => hh (fun y hy => HNO.out y (by omega))), HB.out⟩
end Go.Proofs.YtbkcecilbpngcaaGreat
