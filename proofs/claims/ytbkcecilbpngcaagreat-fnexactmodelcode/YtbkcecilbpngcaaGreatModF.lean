/-
  Whether all nodes are well formed: the model.
-/
import Derived.Test.YtbkcecilbpngcaaGreatRows
import Derived.Test.YtbkcecilbpngcaaGreatPaA
import Derived.Test.YtbkcecilbpngcaaGreatNodeM
import Derived.Test.YtbkcecilbpngcaaGreatNames
import Derived.Test.YtbkcecilbpngcaaGreatFieldsS
import Derived.Test.YtbkcecilbpngcaaGreatNodeL
import Derived.Test.YtbkcecilbpngcaaGreatResP
import Derived.Test.YtbkcecilbpngcaaGreatNSortS
import Derived.Test.YtbkcecilbpngcaaGreatKSortP
import Derived.Test.YtbkcecilbpngcaaGreatNSortJ
import Derived.Test.YtbkcecilbpngcaaGreatModD
import Derived.Test.YtbkcecilbpngcaaGreatModA
import Derived.Test.YtbkcecilbpngcaaGreatModB
import Derived.WalkKit
import Derived.ProofKit
import Derived.OpenShut
import Derived.WalkSpells
import Derived.WalkLawsBesides
import Derived.Outline
import Derived.BigQuiet
import Derived.Handy
import Derived.LoopTactic
import Derived.Deep.Light
import Derived.Deep.RegionWith
import Derived.Deep.RegionHeld3
import Derived.Deep.DeepCutAuto
import Derived.Lib.Hide
namespace Go.Proofs.YtbkcecilbpngcaaGreat
open Go.ChangeShapes Go.WideShapes Go.ChangeAt Go.RowKit
set_option linter.unusedVariables false
set_option maxRecDepth 100000

/-- Each node is well formed. -/
def nodeGood (ns : List ND) (x : ND) : Prop := nOk ns x ∧ nSort ns x = (x.si, x.sw)
def nodesGood (ns : List ND) : Prop := ∀ i, i < ns.length → nodeGood (ns.take i) (ns.getD i default)
theorem nsp_is {ns : List ND} {x : ND} {w w' : World} {e : Ending} {u v : Int} {d : Bool} (huv : nSort ns x = (u, v)) (hd : decide (nOk ns x) = d) (h : NSP ns x w e w') : e = .returned (.tuple #[.agg #[.int .i64 u, .int .i64 v], .bool d]) ∧ Below w.heap.size w w' := by
  obtain ⟨h1, h2⟩ := h
  rw [huv, hd] at h1
  exact ⟨h1, h2⟩
theorem NodesAt.take {B : Nat} {w : World} {a : Option Addr} {len cap k : Nat} {ns : List ND} (h : NodesAt B w a len cap ns) (hk : k ≤ len) : NodesAt B w a k cap (ns.take k) := by
  obtain ⟨h1, h2, h3, h4, h5, h6⟩ := h
  refine ⟨by rw [List.length_take]; omega, by omega, h3, fun x hx => h4 x (List.mem_of_mem_take hx), h5, ?_⟩
  rcases h6 with h6 | ⟨b, off, e, hlt, hc⟩
  · exact .inl (by omega)
  · refine .inr ⟨b, off, e, hlt, fun i hi j hj => ?_⟩
    have hi' : i < ns.length := by rw [List.length_take] at hi; omega
    rw [hc i hi' j hj, List.getElem_take]
theorem keepN {gw b o : Nat} {v v0 v1 v2 v3 v4 v5 v6 v7 v8 : Value} {w w' : World} (hb : Below w.heap.size w w') (hl : gw < w.heap.size) (hl2 : b < w.heap.size) (y : w.cell? ⟨gw, 0, none⟩ = some v) (y0 : w.cell? ⟨b, o, none⟩ = some v0) (y1 : w.cell? ⟨b, o + 1, none⟩ = some v1) (y2 : w.cell? ⟨b, o + 2, none⟩ = some v2) (y3 : w.cell? ⟨b, o + 3, none⟩ = some v3) (y4 : w.cell? ⟨b, o + 4, none⟩ = some v4) (y5 : w.cell? ⟨b, o + 5, none⟩ = some v5) (y6 : w.cell? ⟨b, o + 6, none⟩ = some v6) (y7 : w.cell? ⟨b, o + 7, none⟩ = some v7) (y8 : w.cell? ⟨b, o + 8, none⟩ = some v8) :
    w'.cell? ⟨gw, 0, none⟩ = some v ∧ w'.cell? ⟨b, o, none⟩ = some v0 ∧ w'.cell? ⟨b, o + 1, none⟩ = some v1 ∧ w'.cell? ⟨b, o + 2, none⟩ = some v2 ∧ w'.cell? ⟨b, o + 3, none⟩ = some v3 ∧ w'.cell? ⟨b, o + 4, none⟩ = some v4 ∧ w'.cell? ⟨b, o + 5, none⟩ = some v5 ∧ w'.cell? ⟨b, o + 6, none⟩ = some v6 ∧ w'.cell? ⟨b, o + 7, none⟩ = some v7 ∧ w'.cell? ⟨b, o + 8, none⟩ = some v8 :=
  ⟨keepc hb hl y, keepc hb hl2 y0, keepc hb hl2 y1, keepc hb hl2 y2, keepc hb hl2 y3, keepc hb hl2 y4, keepc hb hl2 y5, keepc hb hl2 y6, keepc hb hl2 y7, keepc hb hl2 y8⟩
/-- A block of two noughts. -/
structure ZB (g : Nat) (w : World) : Prop where
  lt : g < w.heap.size
  c0 : w.cell? ⟨g, 0, none⟩ = some (.int .i64 0)
  c1 : w.cell? ⟨g, 1, none⟩ = some (.int .i64 0)
  f0 : w.frozen? ⟨g, 0, none⟩ = false
  f1 : w.frozen? ⟨g, 1, none⟩ = false
theorem ZB.new (w : World) : ZB w.heap.size (w.alloc (.cells #[.int .i64 0, .int .i64 0] 64)) :=
  ⟨alloc_ltS _ _, World.cell?_alloc_new _ _ _ _, World.cell?_alloc_new _ _ _ _, frozen_of_new _ _ _ _, frozen_of_new _ _ _ _⟩
theorem ZB.newD (w : World) : ZB w.heap.size (w.alloc (.cells #[.int .i64 0, .int .i64 0] 64)).drew := ⟨(ZB.new w).lt, (ZB.new w).c0, (ZB.new w).c1, (ZB.new w).f0, (ZB.new w).f1⟩
theorem ZB.below {g : Nat} {w w' : World} (h : ZB g w) (hB : Below w.heap.size w w') : ZB g w' :=
  ⟨Nat.lt_of_lt_of_le h.lt hB.size, (hB.cell (p := ⟨g, 0, none⟩) h.lt).trans h.c0, (hB.cell (p := ⟨g, 1, none⟩) h.lt).trans h.c1, (hB.frozen (p := ⟨g, 0, none⟩) h.lt).trans h.f0, (hB.frozen (p := ⟨g, 1, none⟩) h.lt).trans h.f1⟩

set_option maxHeartbeats 8000000 in
theorem c_l2Nodes {B : Nat} {s0 s1 s2 s3 s4 : SL} {M : MD} (w : World) (hBw : B ≤ w.heap.size) (h : ModelAt B w s0 s1 s2 s3 s4 M) :
    Calls Tryz.prog 23 #[.agg (mcells s0 s1 s2 s3 s4).toArray] w fun e w' => BoolIs (nodesGood M.ns) e ∧ Below w.heap.size w w' := by
  have HN := Go.Lib.hid h.ns
  have hl0 : M.ns.length = s0.len := h.ns.1
  have hcap := h.ns.2.1
  have hm := Nat.le_trans h.ns.2.1 h.ns.2.2.1
  unfold maxLen at hm
  clear h
  obtain ⟨a0, l0, p0⟩ := s0
  simp only [mcells] at *
  go_enter Tryz.func23, Tryz.ntmps23
  go_wp2_with fail
  go_loopw [3] (fun i wr => ∃ k : Nat, k ≤ l0 ∧ i = .int .i64 k ∧ (∀ t, t < k → nodeGood (M.ns.take t) (M.ns.getD t default)) ∧ Boxed ⟨a0, l0, p0⟩ s1 s2 s3 s4 w wr) (fun i _ => l0 - (intOf i).toNat)
  case atStart => exact ⟨0, by omega, rfl, fun t h => by omega, Boxed.new _ _ _ _ _ _ _⟩
  case round =>
    obtain ⟨k, hk, rfl, hno, HX0⟩ := hrel
    have HNO := Go.Lib.hid hno
    have HXR := Go.Lib.hid HX0
    obtain ⟨hlt, b0, -, -, -, -, hBk⟩ := HX0
    have HB := Go.Lib.hid hBk
    clear hno hBk
    by_cases hkl : k < l0
    · have hki : (k : Int) < l0 := by omega
      have hkp : (k : Int) ≤ p0 := by omega
      have h1B : B ≤ wr.heap.size := Nat.le_trans hBw HB.out.size
      have hNr := (HN.out.rows.below (HB.out.mono hBw)).nodes
      have HNK := Go.Lib.hid (hNr.take (Nat.le_of_lt hkl))
      obtain ⟨nd, hkn, b, off, hnd, hok, rfl, hbB, hc⟩ := node_at hNr hkl
      have hg : M.ns.getD k default = nd := by simp [List.getD, hkn, hnd]
      obtain ⟨c0, c1, c2, c3, c4, c5, c6, c7, c8⟩ := node_cells hc
      have hx : nd.name.size ≤ maxLen := hok.2.2.2.2.2.2.2.2
      have hbr : b < wr.heap.size := Nat.lt_of_lt_of_le hbB h1B
      clear hc hnd hok hNr
      obtain ⟨k0, pa, pb, pc, n, m, si, sw, nm⟩ := nd
      have HG := Go.Lib.hid hg
      clear hg
      simp only at c0 c1 c2 c3 c4 c5 c6 c7 c8 hx
      obtain ⟨u, v, huv⟩ : ∃ u v, nSort (M.ns.take k) ⟨k0, pa, pb, pc, n, m, si, sw, nm⟩ = (u, v) := ⟨_, _, rfl⟩
      obtain ⟨d, hd⟩ : ∃ d, decide (nOk (M.ns.take k) ⟨k0, pa, pb, pc, n, m, si, sw, nm⟩) = d := ⟨_, rfl⟩
      have HUV := Go.Lib.hid huv
      have HD := Go.Lib.hid hd
      clear huv hd
      go_wp2_with fail
      refine wp_region_held_drew (S := (fun w' => w'.cell? ⟨w.heap.size, 0, none⟩ = some (.slice (some ⟨b, off, none⟩) l0 p0) ∧ w'.cell? ⟨b, off + k * 9, none⟩ = some (.int .i64 k0) ∧ w'.cell? ⟨b, off + k * 9 + 1, none⟩ = some (.int .i64 pa) ∧ w'.cell? ⟨b, off + k * 9 + 2, none⟩ = some (.int .i64 pb) ∧ w'.cell? ⟨b, off + k * 9 + 3, none⟩ = some (.int .i64 pc) ∧ w'.cell? ⟨b, off + k * 9 + 4, none⟩ = some (.int .i64 n) ∧ w'.cell? ⟨b, off + k * 9 + 5, none⟩ = some (.int .i64 m) ∧ w'.cell? ⟨b, off + k * 9 + 6, none⟩ = some (.int .i64 si) ∧ w'.cell? ⟨b, off + k * 9 + 7, none⟩ = some (.int .i64 sw) ∧ w'.cell? ⟨b, off + k * 9 + 8, none⟩ = some (.string nm))) (by kernel_rfl) ?_ (fun hHeld => ?_)
      · exact keepN (by go_grown) hlt hbr b0 c0 c1 c2 c3 c4 c5 c6 c7 c8
      refine tL 0 (some 14) ?_
      refine tL 1 (some 15) ?_
      refine tL 2 (some 16) ?_
      refine tL 3 (some 17) ?_
      refine tL 4 (some 18) ?_
      refine tL 5 (some 19) ?_
      refine tL 6 (some 20) ?_
      refine tL 7 (some 21) ?_
      refine tL 8 (some 22) ?_
      refine wpAnyH_ready (rs := [9, 13]) (by kernel_rfl) (by simp) ?_
      refine AllReadyH.cons (o := _) rfl (fun K hK => ?_) ?_
      · go_simp
        refine (c_NodeSortS ⟨k0, pa, pb, pc, n, m, si, sw, nm⟩ hx _ (by go_size) (NodesAt.below HNK.out (show Below B wr _ by go_grown))).mono ?_; intro e w4 hq; obtain ⟨rfl, hB4⟩ := nsp_is HUV.out HD.out hq; clear hq; (try (with_reducible have hZ := ZB.below (ZB.newD wr) hB4)); have hb4 : Below wr.heap.size wr w4 := bstep (by go_grown) (Nat.le_refl _) hB4; have ht4 := hb4.size; clear hB4; (try (obtain ⟨kE, kA, kB, kC, kD⟩ := hZ))
        (try go_wp2_with fail)
        (try clear hHeld)
        refine hK.out _ _ ?_ (fun hHeld => ?_)
        · exact keepN (by go_grown) hlt hbr b0 c0 c1 c2 c3 c4 c5 c6 c7 c8
        clear hK K
        (try simp only [Act.put, List.setIfInBounds_toArray, List.set_cons_zero, List.set_cons_succ])
        refine tL 10 (some 13) ?_
        refine tL 11 (some 24) ?_
        refine tL 12 (some 25) ?_
        refine wpAnyH_ready (rs := [13]) (by kernel_rfl) (by simp) ?_
        refine AllReadyH.cons (o := _) rfl (fun K hK => ?_) AllReadyH.nil
        go_simp
        (try clear hHeld)
        refine hK.out _ _ ?_ (fun hHeld => ?_)
        · exact keepN (by go_grown) hlt hbr b0 c0 c1 c2 c3 c4 c5 c6 c7 c8
        clear hK K
        (try simp only [Act.put, List.setIfInBounds_toArray, List.set_cons_zero, List.set_cons_succ])
        refine wpAnyH_ready (rs := [14]) (by kernel_rfl) (by simp) ?_
        refine AllReadyH.cons (o := _) rfl (fun K hK => ?_) AllReadyH.nil
        go_simp
        (try clear hHeld)
        refine hK.out _ _ ?_ (fun hHeld => ?_)
        · exact keepN (by go_grown) hlt hbr b0 c0 c1 c2 c3 c4 c5 c6 c7 c8
        clear hK K
        (try simp only [Act.put, List.setIfInBounds_toArray, List.set_cons_zero, List.set_cons_succ])
        refine tL 15 (some 5) ?_
        refine wpAnyH_done (by kernel_rfl) ?_ _
        go_wp2_with fail
        clear hHeld
        refine code_gen (R := fun wc => wc.cell? ⟨w.heap.size, 0, none⟩ = some (.slice (some ⟨b, off, none⟩) l0 p0) ∧ wc.cell? ⟨b, off + k * 9 + 6, none⟩ = some (.int .i64 si) ∧ wc.cell? ⟨b, off + k * 9 + 7, none⟩ = some (.int .i64 sw) ∧ wc.cell? ⟨w4.heap.size, 0, none⟩ = some (.int .i64 u) ∧ wc.cell? ⟨w4.heap.size, 1, none⟩ = some (.int .i64 v) ∧ Below wr.heap.size wr wc) ⟨keepc (by go_grown) hlt b0, keepc (by go_grown) hbr c6, keepc (by go_grown) hbr c7, by simp, by simp, by go_grown⟩ ?_
        clear b0 c0 c1 c2 c3 c4 c5 c6 c7 c8 hb4 ht4
        (try clear kE kA kB kC kD)
        rintro wc ⟨b0, c6, c7, e0, e1, hBc⟩
        have HBC := Go.Lib.hid hBc
        clear hBc
        cases d
        · go_quiet (fail)
          go_wp2_with fail
          go_ret
          exact ⟨BoolIs.no (fun hall => by have hgd := hall k (by omega); rw [HG.out] at hgd; have := HD.out; simp only [decide_eq_false_iff_not] at this; exact this hgd.1), below_drewN (HB.out.trans (HBC.out.mono HB.out.size)) _⟩
        · by_cases hu : u = si
          · subst hu
            by_cases hv : v = sw
            · subst hv
              have HYES := Go.Lib.hid (show ∀ t, t < k + 1 → nodeGood (M.ns.take t) (M.ns.getD t default) from fun t ht => by
                rcases Nat.lt_or_ge t k with h | h
                · exact HNO.out t h
                · obtain rfl : t = k := by omega
                  rw [HG.out]; exact ⟨by have := HD.out; simpa using this, HUV.out⟩)
              go_quiet (fail)
              go_wp2_with fail
              go_roundw
              case rel => exact ⟨k + 1, by omega, by go_num, HYES.out, (HXR.out.below HBC.out).drewN _⟩
              case measure => simp [intOf]; omega
            · have q2 : (v == sw) = false := by simpa using hv
              go_quiet (fail)
              go_wp2_with fail
              go_ret
              exact ⟨BoolIs.no (fun hall => by have hgd := hall k (by omega); rw [HG.out] at hgd; have h2 := hgd.2; rw [HUV.out] at h2; simp only [Prod.mk.injEq] at h2; exact hv h2.2), below_drewN (HB.out.trans (HBC.out.mono HB.out.size)) _⟩
          · have q2 : (u == si) = false := by simpa using hu
            go_quiet (fail)
            go_wp2_with fail
            go_ret
            exact ⟨BoolIs.no (fun hall => by have hgd := hall k (by omega); rw [HG.out] at hgd; have h2 := hgd.2; rw [HUV.out] at h2; simp only [Prod.mk.injEq] at h2; exact hu h2.1), below_drewN (HB.out.trans (HBC.out.mono HB.out.size)) _⟩
      refine AllReadyH.cons (o := _) rfl (fun K hK => ?_) ?_
      · go_simp
        (try clear hHeld)
        refine hK.out _ _ ?_ (fun hHeld => ?_)
        · exact keepN (by go_grown) hlt hbr b0 c0 c1 c2 c3 c4 c5 c6 c7 c8
        clear hK K
        (try simp only [Act.put, List.setIfInBounds_toArray, List.set_cons_zero, List.set_cons_succ])
        refine wpAnyH_ready (rs := [9]) (by kernel_rfl) (by simp) ?_
        refine AllReadyH.cons (o := _) rfl (fun K hK => ?_) AllReadyH.nil
        go_simp
        refine (c_NodeSortS ⟨k0, pa, pb, pc, n, m, si, sw, nm⟩ hx _ (by go_size) (NodesAt.below HNK.out (show Below B wr _ by go_grown))).mono ?_; intro e w4 hq; obtain ⟨rfl, hB4⟩ := nsp_is HUV.out HD.out hq; clear hq; (try (with_reducible have hZ := ZB.below (ZB.newD wr) hB4)); have hb4 : Below wr.heap.size wr w4 := bstep (by go_grown) (Nat.le_refl _) hB4; have ht4 := hb4.size; clear hB4; (try (obtain ⟨kE, kA, kB, kC, kD⟩ := hZ))
        (try go_wp2_with fail)
        (try clear hHeld)
        refine hK.out _ _ ?_ (fun hHeld => ?_)
        · exact keepN (by go_grown) hlt hbr b0 c0 c1 c2 c3 c4 c5 c6 c7 c8
        clear hK K
        (try simp only [Act.put, List.setIfInBounds_toArray, List.set_cons_zero, List.set_cons_succ])
        refine tL 10 (some 13) ?_
        refine tL 11 (some 24) ?_
        refine tL 12 (some 25) ?_
        refine wpAnyH_ready (rs := [14]) (by kernel_rfl) (by simp) ?_
        refine AllReadyH.cons (o := _) rfl (fun K hK => ?_) AllReadyH.nil
        go_simp
        (try clear hHeld)
        refine hK.out _ _ ?_ (fun hHeld => ?_)
        · exact keepN (by go_grown) hlt hbr b0 c0 c1 c2 c3 c4 c5 c6 c7 c8
        clear hK K
        (try simp only [Act.put, List.setIfInBounds_toArray, List.set_cons_zero, List.set_cons_succ])
        refine tL 15 (some 5) ?_
        refine wpAnyH_done (by kernel_rfl) ?_ _
        go_wp2_with fail
        clear hHeld
        refine code_gen (R := fun wc => wc.cell? ⟨w.heap.size, 0, none⟩ = some (.slice (some ⟨b, off, none⟩) l0 p0) ∧ wc.cell? ⟨b, off + k * 9 + 6, none⟩ = some (.int .i64 si) ∧ wc.cell? ⟨b, off + k * 9 + 7, none⟩ = some (.int .i64 sw) ∧ wc.cell? ⟨wr.heap.size, 0, none⟩ = some (.int .i64 u) ∧ wc.cell? ⟨wr.heap.size, 1, none⟩ = some (.int .i64 v) ∧ Below wr.heap.size wr wc) ⟨keepc (by go_grown) hlt b0, keepc (by go_grown) hbr c6, keepc (by go_grown) hbr c7, set2_0 kA, set2_1 kB, by go_grown⟩ ?_
        clear b0 c0 c1 c2 c3 c4 c5 c6 c7 c8 hb4 ht4
        (try clear kE kA kB kC kD)
        rintro wc ⟨b0, c6, c7, e0, e1, hBc⟩
        have HBC := Go.Lib.hid hBc
        clear hBc
        cases d
        · go_quiet (fail)
          go_wp2_with fail
          go_ret
          exact ⟨BoolIs.no (fun hall => by have hgd := hall k (by omega); rw [HG.out] at hgd; have := HD.out; simp only [decide_eq_false_iff_not] at this; exact this hgd.1), below_drewN (HB.out.trans (HBC.out.mono HB.out.size)) _⟩
        · by_cases hu : u = si
          · subst hu
            by_cases hv : v = sw
            · subst hv
              have HYES := Go.Lib.hid (show ∀ t, t < k + 1 → nodeGood (M.ns.take t) (M.ns.getD t default) from fun t ht => by
                rcases Nat.lt_or_ge t k with h | h
                · exact HNO.out t h
                · obtain rfl : t = k := by omega
                  rw [HG.out]; exact ⟨by have := HD.out; simpa using this, HUV.out⟩)
              go_quiet (fail)
              go_wp2_with fail
              go_roundw
              case rel => exact ⟨k + 1, by omega, by go_num, HYES.out, (HXR.out.below HBC.out).drewN _⟩
              case measure => simp [intOf]; omega
            · have q2 : (v == sw) = false := by simpa using hv
              go_quiet (fail)
              go_wp2_with fail
              go_ret
              exact ⟨BoolIs.no (fun hall => by have hgd := hall k (by omega); rw [HG.out] at hgd; have h2 := hgd.2; rw [HUV.out] at h2; simp only [Prod.mk.injEq] at h2; exact hv h2.2), below_drewN (HB.out.trans (HBC.out.mono HB.out.size)) _⟩
          · have q2 : (u == si) = false := by simpa using hu
            go_quiet (fail)
            go_wp2_with fail
            go_ret
            exact ⟨BoolIs.no (fun hall => by have hgd := hall k (by omega); rw [HG.out] at hgd; have h2 := hgd.2; rw [HUV.out] at h2; simp only [Prod.mk.injEq] at h2; exact hu h2.1), below_drewN (HB.out.trans (HBC.out.mono HB.out.size)) _⟩
      exact AllReadyH.nil
    · have hki : ¬ (k : Int) < l0 := by omega
      go_wp2_with fail
      go_ret
      exact ⟨BoolIs.yes (fun t ht => HNO.out t (by omega)), HB.out⟩
end Go.Proofs.YtbkcecilbpngcaaGreat
