/-
  Parts: ModP, ModQ, ModU, ModV, LawMC, ModW, shortened.
-/
import Derived.Test.YtlcgimadbpagfaaGreatZModM
namespace Go.Proofs.YtlcgimadbpagfaaGreat
open Go.Lib
open Go.ChangeShapes Go.WideShapes Go.ChangeAt Go.RowKit
set_option linter.unusedVariables false
set_option maxRecDepth 100000
theorem keep9 {g : Nat} {v0 v1 v2 v3 v4 v5 v6 v7 v8 : Value} {w w' : World} (hb : Below w.heap.size w w') (hl : g < w.heap.size) (y0 : w.cell? ⟨g, 0, none⟩ = some v0) (y1 : w.cell? ⟨g, 1, none⟩ = some v1) (y2 : w.cell? ⟨g, 2, none⟩ = some v2) (y3 : w.cell? ⟨g, 3, none⟩ = some v3) (y4 : w.cell? ⟨g, 4, none⟩ = some v4) (y5 : w.cell? ⟨g, 5, none⟩ = some v5) (y6 : w.cell? ⟨g, 6, none⟩ = some v6) (y7 : w.cell? ⟨g, 7, none⟩ = some v7) (y8 : w.cell? ⟨g, 8, none⟩ = some v8) :
  w'.cell? ⟨g, 0, none⟩ = some v0 ∧ w'.cell? ⟨g, 1, none⟩ = some v1 ∧ w'.cell? ⟨g, 2, none⟩ = some v2 ∧ w'.cell? ⟨g, 3, none⟩ = some v3 ∧ w'.cell? ⟨g, 4, none⟩ = some v4 ∧ w'.cell? ⟨g, 5, none⟩ = some v5 ∧ w'.cell? ⟨g, 6, none⟩ = some v6 ∧ w'.cell? ⟨g, 7, none⟩ = some v7 ∧ w'.cell? ⟨g, 8, none⟩ = some v8 :=
 ⟨keepc hb hl y0, keepc hb hl y1, keepc hb hl y2, keepc hb hl y3, keepc hb hl y4, keepc hb hl y5, keepc hb hl y6, keepc hb hl y7, keepc hb hl y8⟩
set_option maxHeartbeats 8000000 in
theorem c_hasBadNode {B : Nat} {a0 : Option Addr} {l0 p0 : Nat} {ns : List ND} (w : World) (hBw : B ≤ w.heap.size) (h : NodesAt B w a0 l0 p0 ns) :
  Calls Tryz.prog 140 #[.slice a0 l0 p0] w fun e w' => BoolIs (¬ nodesGood ns) e ∧ Below w.heap.size w w' := by
 have HN := hid h
 have hl0 : ns.length = l0 := h.1
 have hcap := h.2.1
 have hm := Nat.le_trans h.2.1 h.2.2.1
 unfold maxLen at hm
 clear h
 go_enter Tryz.func140, Tryz.ntmps140
 go_wp2_with fail
 go_loopw [9] (fun i wr => ∃ k : Nat, k ≤ l0 ∧ i = .int .i64 k ∧ (∀ t, t < k → nodeGood (ns.take t) (ns.getD t default)) ∧ Below w.heap.size w wr) (fun i _ => l0 - (intOf i).toNat)
 case atStart => exact ⟨0, by omega, rfl, fun t h => by omega, Below.refl _ _⟩
 case round =>
  obtain ⟨k, hk, rfl, hno, hBk⟩ := hrel
  have HNO := hid hno
  have HB := hid hBk
  clear hno hBk
  by_cases hkl : k < l0
  ·have hki : (k : Int) < l0 := by omega
   have hkp : (k : Int) ≤ p0 := by omega
   have h1B : B ≤ wr.heap.size := Nat.le_trans hBw HB.out.size
   have hNr := (HN.out.rows.below (HB.out.mono hBw)).nodes
   have HNR := hid hNr
   obtain ⟨nd, hkn, b, off, hnd, hok, rfl, hbB, hc⟩ := node_at hNr hkl
   have hg : ns.getD k default = nd := by simp [List.getD, hkn, hnd]
   obtain ⟨c0, c1, c2, c3, c4, c5, c6, c7, c8⟩ := node_cells hc
   have hx : nd.name.size ≤ maxLen := hok.2.2.2.2.2.2.2.2
   clear hc hnd hok hNr
   obtain ⟨k0, pa, pb, pc, n, m, si, sw, nm⟩ := nd
   have HG := hid hg
   clear hg
   simp only at c0 c1 c2 c3 c4 c5 c6 c7 c8 hx
   obtain ⟨u, v, huv⟩ : ∃ u v, nSort (ns.take k) ⟨k0, pa, pb, pc, n, m, si, sw, nm⟩ = (u, v) := ⟨_, _, rfl⟩
   obtain ⟨d, hd⟩ : ∃ d, decide (nOk (ns.take k) ⟨k0, pa, pb, pc, n, m, si, sw, nm⟩) = d := ⟨_, rfl⟩
   have HUV := hid huv
   have HD := hid hd
   clear huv hd
   go_upto_region 4 with fail
   refine code_gen (R := fun wb => wb.cell? ⟨wr.heap.size, 0, none⟩ = some (.int .i64 k0) ∧ wb.cell? ⟨wr.heap.size, 1, none⟩ = some (.int .i64 pa) ∧ wb.cell? ⟨wr.heap.size, 2, none⟩ = some (.int .i64 pb) ∧ wb.cell? ⟨wr.heap.size, 3, none⟩ = some (.int .i64 pc) ∧ wb.cell? ⟨wr.heap.size, 4, none⟩ = some (.int .i64 n) ∧ wb.cell? ⟨wr.heap.size, 5, none⟩ = some (.int .i64 m) ∧ wb.cell? ⟨wr.heap.size, 6, none⟩ = some (.int .i64 si) ∧ wb.cell? ⟨wr.heap.size, 7, none⟩ = some (.int .i64 sw) ∧ wb.cell? ⟨wr.heap.size, 8, none⟩ = some (.string nm) ∧ wr.heap.size < wb.heap.size ∧ Below wr.heap.size wr wb) ⟨by simp, by simp, by simp, by simp, by simp, by simp, by simp, by simp, by simp, by simp, by go_grown⟩ ?_
   clear c0 c1 c2 c3 c4 c5 c6 c7 c8
   rintro wb ⟨c0, c1, c2, c3, c4, c5, c6, c7, c8, hgl, hBb0⟩
   have hBb : B ≤ wb.heap.size := Nat.le_trans h1B hBb0.size
   have HBB := hid (HB.out.trans (hBb0.mono HB.out.size))
   have HNK := hid ((((HNR.out.rows.below (hBb0.mono h1B)).nodes)).take (Nat.le_of_lt hkl))
   generalize hgg : wr.heap.size = g at *
   clear hBb0 hgg HNR HB
   refine wp_region_held_drew (S := (fun w' => w'.cell? ⟨g, 0, none⟩ = some (.int .i64 k0) ∧ w'.cell? ⟨g, 1, none⟩ = some (.int .i64 pa) ∧ w'.cell? ⟨g, 2, none⟩ = some (.int .i64 pb) ∧ w'.cell? ⟨g, 3, none⟩ = some (.int .i64 pc) ∧ w'.cell? ⟨g, 4, none⟩ = some (.int .i64 n) ∧ w'.cell? ⟨g, 5, none⟩ = some (.int .i64 m) ∧ w'.cell? ⟨g, 6, none⟩ = some (.int .i64 si) ∧ w'.cell? ⟨g, 7, none⟩ = some (.int .i64 sw) ∧ w'.cell? ⟨g, 8, none⟩ = some (.string nm))) (by kernel_rfl) ?_ (fun hHeld => ?_)
   ·exact keep9 (by go_grown) hgl c0 c1 c2 c3 c4 c5 c6 c7 c8
   refine tL 0 (some 15) ?_
   refine tL 1 (some 16) ?_
   refine tL 2 (some 17) ?_
   refine tL 3 (some 18) ?_
   refine wpAnyH_ready (rs := [4, 8]) (by kernel_rfl) (by simp) ?_
   refine .cons (o := _) rfl (fun K hK => ?_) ?_
   ·go_simp
    refine (c_NodeSortI ⟨k0, pa, pb, pc, n, m, si, sw, nm⟩ hx _ (Nat.le_trans hBb (by go_size)) (NodesAt.below HNK.out (Below.mono (show Below wb.heap.size wb _ by go_grown) hBb))).mono ?_; intro e w4 hq; obtain ⟨rfl, hB4⟩ := nsp_is HUV.out HD.out hq; clear hq; (try (with_reducible have hZ := ZB.below (ZB.newD wb) hB4)); have hb4 : Below wb.heap.size wb w4 := bstep (by go_grown) (Nat.le_refl _) hB4; have ht4 := hb4.size; clear hB4; (try (obtain ⟨kE, kA, kB, kC, kD⟩ := hZ))
    (try go_wp2_with fail)
    (try clear hHeld)
    refine hK.out _ _ ?_ (fun hHeld => ?_)
    ·exact keep9 (by go_grown) hgl c0 c1 c2 c3 c4 c5 c6 c7 c8
    clear hK K
    (try simp only [Act.put, zq1, zq2, zq3])
    refine tL 5 (some 14) ?_
    refine tL 6 (some 20) ?_
    refine tL 7 (some 21) ?_
    refine wpAnyH_ready (rs := [8]) (by kernel_rfl) (by simp) ?_
    refine .cons (o := _) rfl (fun K hK => ?_) .nil
    go_simp
    (try clear hHeld)
    refine hK.out _ _ ?_ (fun hHeld => ?_)
    ·exact keep9 (by go_grown) hgl c0 c1 c2 c3 c4 c5 c6 c7 c8
    clear hK K
    (try simp only [Act.put, zq1, zq2, zq3])
    refine wpAnyH_ready (rs := [9]) (by kernel_rfl) (by simp) ?_
    refine .cons (o := _) rfl (fun K hK => ?_) .nil
    go_simp
    (try clear hHeld)
    refine hK.out _ _ ?_ (fun hHeld => ?_)
    ·exact keep9 (by go_grown) hgl c0 c1 c2 c3 c4 c5 c6 c7 c8
    clear hK K
    (try simp only [Act.put, zq1, zq2, zq3])
    refine tL 10 (some 6) ?_
    refine wpAnyH_done (by kernel_rfl) ?_ _
    go_upto_region 5 with fail
    clear hHeld
    refine code_gen (R := fun wc => wc.cell? ⟨g, 6, none⟩ = some (.int .i64 si) ∧ wc.cell? ⟨g, 7, none⟩ = some (.int .i64 sw) ∧ wc.cell? ⟨w4.heap.size, 0, none⟩ = some (.int .i64 u) ∧ wc.cell? ⟨w4.heap.size, 1, none⟩ = some (.int .i64 v) ∧ Below wb.heap.size wb wc) ⟨keepc (by go_grown) hgl c6, keepc (by go_grown) hgl c7, by simp, by simp, by go_grown⟩ ?_
    clear c0 c1 c2 c3 c4 c5 c6 c7 c8 hb4 ht4
    (try clear kE kA kB kC kD)
    rintro wc ⟨c6, c7, e0, e1, hBc⟩
    have HBC := hid hBc
    clear hBc
    cases d
    ·go_wp2_with fail
     go_ret
     exact ⟨BoolIs.yes (fun hall => by have hgd := hall k (by omega); rw [HG.out] at hgd; have := HD.out; simp only [decide_eq_false_iff_not] at this; exact this hgd.1), HBB.out.trans (HBC.out.mono HBB.out.size)⟩
    ·by_cases hu : u = si
     ·subst hu
      by_cases hv : v = sw
      ·subst hv
       have HYES := hid (show ∀ t, t < k + 1 → nodeGood (ns.take t) (ns.getD t default) from fun t ht => by
        rcases Nat.lt_or_ge t k with h | h
        ·exact HNO.out t h
        ·obtain rfl : t = k := by omega
         rw [HG.out]; exact ⟨by have := HD.out; simpa using this, HUV.out⟩)
       go_wp2_with fail
       go_roundw
       case rel => exact ⟨k + 1, by omega, by go_num, HYES.out, HBB.out.trans (HBC.out.mono HBB.out.size)⟩
       case measure => simp [intOf] <;> omega
      ·have q2 : (v == sw) = false := by simpa using hv
       go_wp2_with fail
       go_ret
       exact ⟨BoolIs.yes (fun hall => by have hgd := hall k (by omega); rw [HG.out] at hgd; have h2 := hgd.2; rw [HUV.out] at h2; simp only [Prod.mk.injEq] at h2; exact hv h2.2), HBB.out.trans (HBC.out.mono HBB.out.size)⟩
     ·have q2 : (u == si) = false := by simpa using hu
      go_wp2_with fail
      go_ret
      exact ⟨BoolIs.yes (fun hall => by have hgd := hall k (by omega); rw [HG.out] at hgd; have h2 := hgd.2; rw [HUV.out] at h2; simp only [Prod.mk.injEq] at h2; exact hu h2.1), HBB.out.trans (HBC.out.mono HBB.out.size)⟩
   refine .cons (o := _) rfl (fun K hK => ?_) ?_
   ·go_simp
    (try clear hHeld)
    refine hK.out _ _ ?_ (fun hHeld => ?_)
    ·exact keep9 (by go_grown) hgl c0 c1 c2 c3 c4 c5 c6 c7 c8
    clear hK K
    (try simp only [Act.put, zq1, zq2, zq3])
    refine wpAnyH_ready (rs := [4]) (by kernel_rfl) (by simp) ?_
    refine .cons (o := _) rfl (fun K hK => ?_) .nil
    go_simp
    refine (c_NodeSortI ⟨k0, pa, pb, pc, n, m, si, sw, nm⟩ hx _ (Nat.le_trans hBb (by go_size)) (NodesAt.below HNK.out (Below.mono (show Below wb.heap.size wb _ by go_grown) hBb))).mono ?_; intro e w4 hq; obtain ⟨rfl, hB4⟩ := nsp_is HUV.out HD.out hq; clear hq; (try (with_reducible have hZ := ZB.below (ZB.newD wb) hB4)); have hb4 : Below wb.heap.size wb w4 := bstep (by go_grown) (Nat.le_refl _) hB4; have ht4 := hb4.size; clear hB4; (try (obtain ⟨kE, kA, kB, kC, kD⟩ := hZ))
    (try go_wp2_with fail)
    (try clear hHeld)
    refine hK.out _ _ ?_ (fun hHeld => ?_)
    ·exact keep9 (by go_grown) hgl c0 c1 c2 c3 c4 c5 c6 c7 c8
    clear hK K
    (try simp only [Act.put, zq1, zq2, zq3])
    refine tL 5 (some 14) ?_
    refine tL 6 (some 20) ?_
    refine tL 7 (some 21) ?_
    refine wpAnyH_ready (rs := [9]) (by kernel_rfl) (by simp) ?_
    refine .cons (o := _) rfl (fun K hK => ?_) .nil
    go_simp
    (try clear hHeld)
    refine hK.out _ _ ?_ (fun hHeld => ?_)
    ·exact keep9 (by go_grown) hgl c0 c1 c2 c3 c4 c5 c6 c7 c8
    clear hK K
    (try simp only [Act.put, zq1, zq2, zq3])
    refine tL 10 (some 6) ?_
    refine wpAnyH_done (by kernel_rfl) ?_ _
    go_upto_region 5 with fail
    clear hHeld
    refine code_gen (R := fun wc => wc.cell? ⟨g, 6, none⟩ = some (.int .i64 si) ∧ wc.cell? ⟨g, 7, none⟩ = some (.int .i64 sw) ∧ wc.cell? ⟨wb.heap.size, 0, none⟩ = some (.int .i64 u) ∧ wc.cell? ⟨wb.heap.size, 1, none⟩ = some (.int .i64 v) ∧ Below wb.heap.size wb wc) ⟨keepc (by go_grown) hgl c6, keepc (by go_grown) hgl c7, set2_0 kA, set2_1 kB, by go_grown⟩ ?_
    clear c0 c1 c2 c3 c4 c5 c6 c7 c8 hb4 ht4
    (try clear kE kA kB kC kD)
    rintro wc ⟨c6, c7, e0, e1, hBc⟩
    have HBC := hid hBc
    clear hBc
    cases d
    ·go_wp2_with fail
     go_ret
     exact ⟨BoolIs.yes (fun hall => by have hgd := hall k (by omega); rw [HG.out] at hgd; have := HD.out; simp only [decide_eq_false_iff_not] at this; exact this hgd.1), HBB.out.trans (HBC.out.mono HBB.out.size)⟩
    ·by_cases hu : u = si
     ·subst hu
      by_cases hv : v = sw
      ·subst hv
       have HYES := hid (show ∀ t, t < k + 1 → nodeGood (ns.take t) (ns.getD t default) from fun t ht => by
        rcases Nat.lt_or_ge t k with h | h
        ·exact HNO.out t h
        ·obtain rfl : t = k := by omega
         rw [HG.out]; exact ⟨by have := HD.out; simpa using this, HUV.out⟩)
       go_wp2_with fail
       go_roundw
       case rel => exact ⟨k + 1, by omega, by go_num, HYES.out, HBB.out.trans (HBC.out.mono HBB.out.size)⟩
       case measure => simp [intOf] <;> omega
      ·have q2 : (v == sw) = false := by simpa using hv
       go_wp2_with fail
       go_ret
       exact ⟨BoolIs.yes (fun hall => by have hgd := hall k (by omega); rw [HG.out] at hgd; have h2 := hgd.2; rw [HUV.out] at h2; simp only [Prod.mk.injEq] at h2; exact hv h2.2), HBB.out.trans (HBC.out.mono HBB.out.size)⟩
     ·have q2 : (u == si) = false := by simpa using hu
      go_wp2_with fail
      go_ret
      exact ⟨BoolIs.yes (fun hall => by have hgd := hall k (by omega); rw [HG.out] at hgd; have h2 := hgd.2; rw [HUV.out] at h2; simp only [Prod.mk.injEq] at h2; exact hu h2.1), HBB.out.trans (HBC.out.mono HBB.out.size)⟩
   exact .nil
  ·have hki : ¬ (k : Int) < l0 := by omega
   go_wp2_with fail
   go_ret
   exact ⟨BoolIs.no (fun hh => hh (fun y hy => HNO.out y (by omega))), HB.out⟩
end Go.Proofs.YtlcgimadbpagfaaGreat
namespace Go.Proofs.YtlcgimadbpagfaaGreat
open Go.Lib
open Go.ChangeShapes Go.WideShapes Go.ChangeAt Go.RowKit
set_option linter.unusedVariables false
set_option maxRecDepth 100000
def manyN (M : MD) : Prop := 60 < M.ns.length ∨ 60 < M.is.length ∨ 60 < M.xs.length ∨ 4 < M.bads.length ∨ 4 < M.holds.length
theorem manyN_iff {B : Nat} {w : World} {s0 s1 s2 s3 s4 : SL} {M : MD} (h : ModelAt B w s0 s1 s2 s3 s4 M) : manyN M ↔ tooMany s0 s1 s2 s3 s4 := by
 unfold manyN tooMany
 rw [h.ns.1, h.is.1, h.xs.1, h.bads.1, h.holds.1]
inductive CodeIs (M : MD) : Int → Prop
 | many (h : manyN M) : CodeIs M 1
 | node (h1 : ¬ manyN M) (h2 : ¬ nodesGood M.ns) : CodeIs M 2
 | twice (h1 : ¬ manyN M) (h2 : nodesGood M.ns) (h3 : twiceN M) : CodeIs M 3
 | bind (h1 : ¬ manyN M) (h2 : nodesGood M.ns) (h3 : ¬ twiceN M) (h4 : ¬ bindsN M) : CodeIs M 4
 | prop (h1 : ¬ manyN M) (h2 : nodesGood M.ns) (h3 : ¬ twiceN M) (h4 : bindsN M) (h5 : ¬ (propsOk M.ns M.bads ∧ propsOk M.ns M.holds)) : CodeIs M 5
 | big (h1 : ¬ manyN M) (h2 : nodesGood M.ns) (h3 : ¬ twiceN M) (h4 : bindsN M) (h5 : propsOk M.ns M.bads ∧ propsOk M.ns M.holds) (h6 : 8 < allBits 36 M.ns ∨ 5 < allBits 35 M.ns) : CodeIs M 6
 | ok (h1 : ¬ manyN M) (h2 : nodesGood M.ns) (h3 : ¬ twiceN M) (h4 : bindsN M) (h5 : propsOk M.ns M.bads ∧ propsOk M.ns M.holds) (h6 : ¬ (8 < allBits 36 M.ns ∨ 5 < allBits 35 M.ns)) : CodeIs M 0
theorem CodeIs.inj {M : MD} {c d : Int} (h : CodeIs M c) (k : CodeIs M d) : c = d := by
 cases h <;> cases k <;> first | rfl | (exfalso; simp_all; done)
def CodeP (M : MD) (w : World) (e : Ending) (w' : World) : Prop := ∃ c, e = .returned (.int .i64 c) ∧ CodeIs M c ∧ Below w.heap.size w w'
set_option maxHeartbeats 8000000 in
theorem c_ModelCodeI {B : Nat} {s0 s1 s2 s3 s4 : SL} {M : MD} (w : World) (hBw : B ≤ w.heap.size) (h : ModelAt B w s0 s1 s2 s3 s4 M) :
  Calls Tryz.prog 97 #[.agg (mcells s0 s1 s2 s3 s4).toArray] w (CodeP M w) := by
 have HMA := hid h
 clear h
 simp only [mcells]
 go_enter Tryz.func97, Tryz.ntmps97
 go_upto_region 1 with fail
 refine code_gen (R := fun wb => Boxed s0 s1 s2 s3 s4 w wb) (Boxed.new _ _ _ _ _ _ _) ?_
 intro w0 hbox
 have HX0 := hid hbox
 clear hbox
 obtain ⟨hlt, x0, x1, x2, x3, x4, hBx⟩ := HX0.out
 have hBk := Nat.le_trans hBw hBx.size
 have HM0 := hid (HMA.out.below (hBx.mono hBw))
 clear hBx
 go_wp2_with fail
 refine (c_hasTooMany (B := B) (s0 := s0) (s1 := s1) (s2 := s2) (s3 := s3) (s4 := s4) w0 HM0.out).mono ?_
 rintro e w1 ⟨hb, hB⟩
 have HX1 := hid (HX0.out.below hB)
 clear hB x0 x1 x2 x3 x4 hlt hBk HM0
 obtain ⟨hlt, x0, x1, x2, x3, x4, hBx⟩ := HX1.out
 have hBk := Nat.le_trans hBw hBx.size
 have HM1 := hid (HMA.out.below (hBx.mono hBw))
 clear hBx
 by_cases hP0 : tooMany s0 s1 s2 s3 s4
 ·obtain rfl := boolIs_t hP0 hb
  have HC := hid (show CodeIs M 1 from .many ((manyN_iff HMA.out).2 hP0))
  clear hb hP0
  go_wp2_with fail
  go_ret
  exact ⟨_, rfl, HC.out, HX1.out.2.2.2.2.2.2⟩
 obtain rfl := boolIs_f hP0 hb
 have HP0 := hid hP0
 clear hb hP0
 go_wp2_with fail
 refine (c_hasBadNode (B := B) w1 hBk (HM1.out).ns).mono ?_
 rintro e w2 ⟨hb, hB⟩
 have HX2 := hid (HX1.out.below hB)
 clear hB x0 x1 x2 x3 x4 hlt hBk HM1
 obtain ⟨hlt, x0, x1, x2, x3, x4, hBx⟩ := HX2.out
 have hBk := Nat.le_trans hBw hBx.size
 have HM2 := hid (HMA.out.below (hBx.mono hBw))
 clear hBx
 by_cases hP1 : ¬ nodesGood M.ns
 ·obtain rfl := boolIs_t hP1 hb
  have HC := hid (show CodeIs M 2 from .node (fun h => HP0.out ((manyN_iff HMA.out).1 h)) hP1)
  clear hb hP1
  go_wp2_with fail
  go_ret
  exact ⟨_, rfl, HC.out, HX2.out.2.2.2.2.2.2⟩
 obtain rfl := boolIs_f hP1 hb
 have HP1 := hid (show nodesGood M.ns from Classical.not_not.1 hP1)
 clear hb hP1
 have HP1' := hid (show ¬ manyN M from fun h => HP0.out ((manyN_iff HMA.out).1 h))
 have h60 : s0.len ≤ 60 := Nat.le_of_not_lt (fun h => HP0.out (.inl h))
 go_wp2_with fail
 refine (c_hasNameTwice (B := B) w2 hBk (HM2.out).ns).mono ?_
 rintro e w3 ⟨hb, hB⟩
 have HX3 := hid (HX2.out.below hB)
 clear hB x0 x1 x2 x3 x4 hlt hBk HM2
 obtain ⟨hlt, x0, x1, x2, x3, x4, hBx⟩ := HX3.out
 have hBk := Nat.le_trans hBw hBx.size
 have HM3 := hid (HMA.out.below (hBx.mono hBw))
 clear hBx
 by_cases hP2 : namesTwice M.ns
 ·obtain rfl := boolIs_t hP2 hb
  have HC := hid (show CodeIs M 3 from .twice HP1'.out HP1.out (.inl hP2))
  clear hb hP2
  go_wp2_with fail
  go_ret
  exact ⟨_, rfl, HC.out, HX3.out.2.2.2.2.2.2⟩
 obtain rfl := boolIs_f hP2 hb
 have HP2 := hid hP2
 clear hb hP2
 go_wp2_with fail
 refine (c_hasStateTwice (B := B) w3 hBk (HM3.out).is).mono ?_
 rintro e w4 ⟨hb, hB⟩
 have HX4 := hid (HX3.out.below hB)
 clear hB x0 x1 x2 x3 x4 hlt hBk HM3
 obtain ⟨hlt, x0, x1, x2, x3, x4, hBx⟩ := HX4.out
 have hBk := Nat.le_trans hBw hBx.size
 have HM4 := hid (HMA.out.below (hBx.mono hBw))
 clear hBx
 by_cases hP3 : againN M.is
 ·obtain rfl := boolIs_t hP3 hb
  have HC := hid (show CodeIs M 3 from .twice HP1'.out HP1.out (.inr (.inl hP3)))
  clear hb hP3
  go_wp2_with fail
  go_ret
  exact ⟨_, rfl, HC.out, HX4.out.2.2.2.2.2.2⟩
 obtain rfl := boolIs_f hP3 hb
 have HP3 := hid hP3
 clear hb hP3
 go_wp2_with fail
 refine (c_hasStateTwice (B := B) w4 hBk (HM4.out).xs).mono ?_
 rintro e w5 ⟨hb, hB⟩
 have HX5 := hid (HX4.out.below hB)
 clear hB x0 x1 x2 x3 x4 hlt hBk HM4
 obtain ⟨hlt, x0, x1, x2, x3, x4, hBx⟩ := HX5.out
 have hBk := Nat.le_trans hBw hBx.size
 have HM5 := hid (HMA.out.below (hBx.mono hBw))
 clear hBx
 by_cases hP4 : againN M.xs
 ·obtain rfl := boolIs_t hP4 hb
  have HC := hid (show CodeIs M 3 from .twice HP1'.out HP1.out (.inr (.inr hP4)))
  clear hb hP4
  go_wp2_with fail
  go_ret
  exact ⟨_, rfl, HC.out, HX5.out.2.2.2.2.2.2⟩
 obtain rfl := boolIs_f hP4 hb
 have HP4 := hid hP4
 clear hb hP4
 have HP2' := hid (show ¬ twiceN M from fun h => by rcases h with h | h | h; exact HP2.out h; exact HP3.out h; exact HP4.out h)
 go_wp2_with fail
 refine (c_hasBadInit (B := B) (s0 := s0) (s1 := s1) (s2 := s2) (s3 := s3) (s4 := s4) w5 hBk HM5.out HP1.out h60).mono ?_
 rintro e w6 ⟨hb, hB⟩
 have HX6 := hid (HX5.out.below hB)
 clear hB x0 x1 x2 x3 x4 hlt hBk HM5
 obtain ⟨hlt, x0, x1, x2, x3, x4, hBx⟩ := HX6.out
 have hBk := Nat.le_trans hBw hBx.size
 have HM6 := hid (HMA.out.below (hBx.mono hBw))
 clear hBx
 by_cases hP5 : ¬ initsOk M
 ·obtain rfl := boolIs_t hP5 hb
  have HC := hid (show CodeIs M 4 from .bind HP1'.out HP1.out HP2'.out (fun h => hP5 ((bindsN_iff M).1 h).1))
  clear hb hP5
  go_wp2_with fail
  go_ret
  exact ⟨_, rfl, HC.out, HX6.out.2.2.2.2.2.2⟩
 obtain rfl := boolIs_f hP5 hb
 have HP5 := hid hP5
 clear hb hP5
 go_wp2_with fail
 refine (c_hasBadNext (B := B) (s0 := s0) (s1 := s1) (s2 := s2) (s3 := s3) (s4 := s4) w6 hBk HM6.out HP1.out).mono ?_
 rintro e w7 ⟨hb, hB⟩
 have HX7 := hid (HX6.out.below hB)
 clear hB x0 x1 x2 x3 x4 hlt hBk HM6
 obtain ⟨hlt, x0, x1, x2, x3, x4, hBx⟩ := HX7.out
 have hBk := Nat.le_trans hBw hBx.size
 have HM7 := hid (HMA.out.below (hBx.mono hBw))
 clear hBx
 by_cases hP6 : ¬ nextsOk M
 ·obtain rfl := boolIs_t hP6 hb
  have HC := hid (show CodeIs M 4 from .bind HP1'.out HP1.out HP2'.out (fun h => hP6 ((bindsN_iff M).1 h).2))
  clear hb hP6
  go_wp2_with fail
  go_ret
  exact ⟨_, rfl, HC.out, HX7.out.2.2.2.2.2.2⟩
 obtain rfl := boolIs_f hP6 hb
 have HP6 := hid hP6
 clear hb hP6
 have HP3' := hid (show bindsN M from (bindsN_iff M).2 ⟨Classical.not_not.1 HP5.out, Classical.not_not.1 HP6.out⟩)
 go_wp2_with fail
 refine (c_hasBadProp (B := B) w7 hBk (HM7.out).ns (HM7.out).bads).mono ?_
 rintro e w8 ⟨hb, hB⟩
 have HX8 := hid (HX7.out.below hB)
 clear hB x0 x1 x2 x3 x4 hlt hBk HM7
 obtain ⟨hlt, x0, x1, x2, x3, x4, hBx⟩ := HX8.out
 have hBk := Nat.le_trans hBw hBx.size
 have HM8 := hid (HMA.out.below (hBx.mono hBw))
 clear hBx
 by_cases hP7 : ¬ propsOk M.ns M.bads
 ·obtain rfl := boolIs_t hP7 hb
  have HC := hid (show CodeIs M 5 from .prop HP1'.out HP1.out HP2'.out HP3'.out (fun h => hP7 h.1))
  clear hb hP7
  go_wp2_with fail
  go_ret
  exact ⟨_, rfl, HC.out, HX8.out.2.2.2.2.2.2⟩
 obtain rfl := boolIs_f hP7 hb
 have HP7 := hid hP7
 clear hb hP7
 go_wp2_with fail
 refine (c_hasBadProp (B := B) w8 hBk (HM8.out).ns (HM8.out).holds).mono ?_
 rintro e w9 ⟨hb, hB⟩
 have HX9 := hid (HX8.out.below hB)
 clear hB x0 x1 x2 x3 x4 hlt hBk HM8
 obtain ⟨hlt, x0, x1, x2, x3, x4, hBx⟩ := HX9.out
 have hBk := Nat.le_trans hBw hBx.size
 have HM9 := hid (HMA.out.below (hBx.mono hBw))
 clear hBx
 by_cases hP8 : ¬ propsOk M.ns M.holds
 ·obtain rfl := boolIs_t hP8 hb
  have HC := hid (show CodeIs M 5 from .prop HP1'.out HP1.out HP2'.out HP3'.out (fun h => hP8 h.2))
  clear hb hP8
  go_wp2_with fail
  go_ret
  exact ⟨_, rfl, HC.out, HX9.out.2.2.2.2.2.2⟩
 obtain rfl := boolIs_f hP8 hb
 have HP8 := hid hP8
 clear hb hP8
 have HP4' := hid (show propsOk M.ns M.bads ∧ propsOk M.ns M.holds from ⟨Classical.not_not.1 HP7.out, Classical.not_not.1 HP8.out⟩)
 go_wp2_with fail
 refine (c_kindBits (B := B) 36 w9 hBk (HM9.out).ns h60).mono ?_
 rintro e w10 ⟨rfl, hB⟩
 have HX10 := hid (HX9.out.below hB)
 clear hB x0 x1 x2 x3 x4 hlt hBk HM9
 obtain ⟨hlt, x0, x1, x2, x3, x4, hBx⟩ := HX10.out
 have hBk := Nat.le_trans hBw hBx.size
 have HM10 := hid (HMA.out.below (hBx.mono hBw))
 clear hBx
 by_cases hP9 : 8 < allBits 36 M.ns
 ·have HC := hid (show CodeIs M 6 from .big HP1'.out HP1.out HP2'.out HP3'.out HP4'.out (.inl hP9))
  go_wp2_with fail
  go_ret
  exact ⟨_, rfl, HC.out, HX10.out.2.2.2.2.2.2⟩
 go_wp2_with fail
 refine (c_kindBits (B := B) 35 w10 hBk (HM10.out).ns h60).mono ?_
 rintro e w11 ⟨rfl, hB⟩
 have HX11 := hid (HX10.out.below hB)
 clear hB x0 x1 x2 x3 x4 hlt hBk HM10
 obtain ⟨hlt, x0, x1, x2, x3, x4, hBx⟩ := HX11.out
 have hBk := Nat.le_trans hBw hBx.size
 have HM11 := hid (HMA.out.below (hBx.mono hBw))
 clear hBx
 by_cases hP10 : 5 < allBits 35 M.ns
 ·have HC := hid (show CodeIs M 6 from .big HP1'.out HP1.out HP2'.out HP3'.out HP4'.out (.inr hP10))
  go_wp2_with fail
  go_ret
  exact ⟨_, rfl, HC.out, HX11.out.2.2.2.2.2.2⟩
 have HC := hid (show CodeIs M 0 from .ok HP1'.out HP1.out HP2'.out HP3'.out HP4'.out (fun h => by rcases h with h | h <;> omega))
 go_wp2_with fail
 go_ret
 exact ⟨_, rfl, HC.out, HX11.out.2.2.2.2.2.2⟩
set_option maxHeartbeats 8000000 in
theorem c_ModelCodeS {B : Nat} {s0 s1 s2 s3 s4 : SL} {M : MD} (w : World) (hBw : B ≤ w.heap.size) (h : ModelAt B w s0 s1 s2 s3 s4 M) :
  Calls Tryz.prog 83 #[.agg (mcells s0 s1 s2 s3 s4).toArray] w (CodeP M w) := by
 have HMA := hid h
 clear h
 simp only [mcells]
 go_enter Tryz.func83, Tryz.ntmps83
 go_upto_region 1 with fail
 refine code_gen (R := fun wb => Boxed s0 s1 s2 s3 s4 w wb) (Boxed.new _ _ _ _ _ _ _) ?_
 intro w0 hbox
 have HX0 := hid hbox
 clear hbox
 obtain ⟨hlt, x0, x1, x2, x3, x4, hBx⟩ := HX0.out
 have hBk := Nat.le_trans hBw hBx.size
 have HM0 := hid (HMA.out.below (hBx.mono hBw))
 clear hBx
 by_cases h0 : 60 < s0.len
 ·have j0 : ((60 : Int) < s0.len) = True := by simp; omega
  have HC := hid (show CodeIs M 1 from .many ((manyN_iff HMA.out).2 (.inl h0)))
  go_wp2_with fail
  go_ret
  exact ⟨_, rfl, HC.out, HX0.out.2.2.2.2.2.2⟩
 have j0 : ((60 : Int) < s0.len) = False := by simp; omega
 by_cases h1 : 60 < s1.len
 ·have j1 : ((60 : Int) < s1.len) = True := by simp; omega
  have HC := hid (show CodeIs M 1 from .many ((manyN_iff HMA.out).2 (.inr (.inl h1))))
  go_wp2_with fail
  go_ret
  exact ⟨_, rfl, HC.out, HX0.out.2.2.2.2.2.2⟩
 have j1 : ((60 : Int) < s1.len) = False := by simp; omega
 by_cases h2 : 60 < s2.len
 ·have j2 : ((60 : Int) < s2.len) = True := by simp; omega
  have HC := hid (show CodeIs M 1 from .many ((manyN_iff HMA.out).2 (.inr (.inr (.inl h2)))))
  go_wp2_with fail
  go_ret
  exact ⟨_, rfl, HC.out, HX0.out.2.2.2.2.2.2⟩
 have j2 : ((60 : Int) < s2.len) = False := by simp; omega
 by_cases h3 : 4 < s3.len
 ·have j3 : ((4 : Int) < s3.len) = True := by simp; omega
  have HC := hid (show CodeIs M 1 from .many ((manyN_iff HMA.out).2 (.inr (.inr (.inr (.inl h3))))))
  go_wp2_with fail
  go_ret
  exact ⟨_, rfl, HC.out, HX0.out.2.2.2.2.2.2⟩
 have j3 : ((4 : Int) < s3.len) = False := by simp; omega
 by_cases h4 : 4 < s4.len
 ·have j4 : ((4 : Int) < s4.len) = True := by simp; omega
  have HC := hid (show CodeIs M 1 from .many ((manyN_iff HMA.out).2 (.inr (.inr (.inr (.inr (h4)))))))
  go_wp2_with fail
  go_ret
  exact ⟨_, rfl, HC.out, HX0.out.2.2.2.2.2.2⟩
 have j4 : ((4 : Int) < s4.len) = False := by simp; omega
 have HP1' := hid (show ¬ manyN M from fun h => by rcases (manyN_iff HMA.out).1 h with h | h | h | h | h <;> omega)
 have h60 : s0.len ≤ 60 := by omega
 go_wp2_with fail
 refine (c_l2Nodes (B := B) (s0 := s0) (s1 := s1) (s2 := s2) (s3 := s3) (s4 := s4) w0 hBk HM0.out).mono ?_
 rintro e w1 ⟨hb, hB⟩
 have HX1 := hid (HX0.out.below hB)
 clear hB x0 x1 x2 x3 x4 hlt hBk HM0
 obtain ⟨hlt, x0, x1, x2, x3, x4, hBx⟩ := HX1.out
 have hBk := Nat.le_trans hBw hBx.size
 have HM1 := hid (HMA.out.below (hBx.mono hBw))
 clear hBx
 by_cases hP0 : nodesGood M.ns
 rotate_left
 ·obtain rfl := boolIs_f hP0 hb
  have HC := hid (show CodeIs M 2 from .node HP1'.out hP0)
  clear hb hP0
  go_wp2_with fail
  go_ret
  exact ⟨_, rfl, HC.out, HX1.out.2.2.2.2.2.2⟩
 obtain rfl := boolIs_t hP0 hb
 have HP1 := hid hP0
 clear hb hP0
 clear h0 h1 h2 h3 h4 j0 j1 j2 j3 j4
 go_wp2_with fail
 refine (c_l2Twice (B := B) (s0 := s0) (s1 := s1) (s2 := s2) (s3 := s3) (s4 := s4) w1 hBk HM1.out).mono ?_
 rintro e w2 ⟨hb, hB⟩
 have HX2 := hid (HX1.out.below hB)
 clear hB x0 x1 x2 x3 x4 hlt hBk HM1
 obtain ⟨hlt, x0, x1, x2, x3, x4, hBx⟩ := HX2.out
 have hBk := Nat.le_trans hBw hBx.size
 have HM2 := hid (HMA.out.below (hBx.mono hBw))
 clear hBx
 by_cases hP1 : twiceN M
 ·obtain rfl := boolIs_t hP1 hb
  have HC := hid (show CodeIs M 3 from .twice HP1'.out HP1.out hP1)
  clear hb hP1
  go_wp2_with fail
  go_ret
  exact ⟨_, rfl, HC.out, HX2.out.2.2.2.2.2.2⟩
 obtain rfl := boolIs_f hP1 hb
 have HP2' := hid hP1
 clear hb hP1
 go_wp2_with fail
 refine (c_l2Binds (B := B) (s0 := s0) (s1 := s1) (s2 := s2) (s3 := s3) (s4 := s4) w2 hBk HM2.out HP1.out h60).mono ?_
 rintro e w3 ⟨hb, hB⟩
 have HX3 := hid (HX2.out.below hB)
 clear hB x0 x1 x2 x3 x4 hlt hBk HM2
 obtain ⟨hlt, x0, x1, x2, x3, x4, hBx⟩ := HX3.out
 have hBk := Nat.le_trans hBw hBx.size
 have HM3 := hid (HMA.out.below (hBx.mono hBw))
 clear hBx
 by_cases hP2 : bindsN M
 rotate_left
 ·obtain rfl := boolIs_f hP2 hb
  have HC := hid (show CodeIs M 4 from .bind HP1'.out HP1.out HP2'.out hP2)
  clear hb hP2
  go_wp2_with fail
  go_ret
  exact ⟨_, rfl, HC.out, HX3.out.2.2.2.2.2.2⟩
 obtain rfl := boolIs_t hP2 hb
 have HP3' := hid hP2
 clear hb hP2
 go_wp2_with fail
 refine (c_l2Props (B := B) (s0 := s0) (s1 := s1) (s2 := s2) (s3 := s3) (s4 := s4) w3 hBk HM3.out (HM3.out).bads).mono ?_
 rintro e w4 ⟨hb, hB⟩
 have HX4 := hid (HX3.out.below hB)
 clear hB x0 x1 x2 x3 x4 hlt hBk HM3
 obtain ⟨hlt, x0, x1, x2, x3, x4, hBx⟩ := HX4.out
 have hBk := Nat.le_trans hBw hBx.size
 have HM4 := hid (HMA.out.below (hBx.mono hBw))
 clear hBx
 by_cases hP3 : propsOk M.ns M.bads
 rotate_left
 ·obtain rfl := boolIs_f hP3 hb
  have HC := hid (show CodeIs M 5 from .prop HP1'.out HP1.out HP2'.out HP3'.out (fun h => hP3 h.1))
  clear hb hP3
  go_wp2_with fail
  go_ret
  exact ⟨_, rfl, HC.out, HX4.out.2.2.2.2.2.2⟩
 obtain rfl := boolIs_t hP3 hb
 have HP3 := hid hP3
 clear hb hP3
 go_wp2_with fail
 refine (c_l2Props (B := B) (s0 := s0) (s1 := s1) (s2 := s2) (s3 := s3) (s4 := s4) w4 hBk HM4.out (HM4.out).holds).mono ?_
 rintro e w5 ⟨hb, hB⟩
 have HX5 := hid (HX4.out.below hB)
 clear hB x0 x1 x2 x3 x4 hlt hBk HM4
 obtain ⟨hlt, x0, x1, x2, x3, x4, hBx⟩ := HX5.out
 have hBk := Nat.le_trans hBw hBx.size
 have HM5 := hid (HMA.out.below (hBx.mono hBw))
 clear hBx
 by_cases hP4 : propsOk M.ns M.holds
 rotate_left
 ·obtain rfl := boolIs_f hP4 hb
  have HC := hid (show CodeIs M 5 from .prop HP1'.out HP1.out HP2'.out HP3'.out (fun h => hP4 h.2))
  clear hb hP4
  go_wp2_with fail
  go_ret
  exact ⟨_, rfl, HC.out, HX5.out.2.2.2.2.2.2⟩
 obtain rfl := boolIs_t hP4 hb
 have HP4 := hid hP4
 clear hb hP4
 have HP4' := hid (show propsOk M.ns M.bads ∧ propsOk M.ns M.holds from ⟨HP3.out, HP4.out⟩)
 go_wp2_with fail
 refine (c_l2All (B := B) (s0 := s0) (s1 := s1) (s2 := s2) (s3 := s3) (s4 := s4) 36 w5 hBk HM5.out h60).mono ?_
 rintro e w6 ⟨rfl, hB⟩
 have HX6 := hid (HX5.out.below hB)
 clear hB x0 x1 x2 x3 x4 hlt hBk HM5
 obtain ⟨hlt, x0, x1, x2, x3, x4, hBx⟩ := HX6.out
 have hBk := Nat.le_trans hBw hBx.size
 have HM6 := hid (HMA.out.below (hBx.mono hBw))
 clear hBx
 by_cases hP5 : 8 < allBits 36 M.ns
 ·have HC := hid (show CodeIs M 6 from .big HP1'.out HP1.out HP2'.out HP3'.out HP4'.out (.inl hP5))
  go_wp2_with fail
  go_ret
  exact ⟨_, rfl, HC.out, HX6.out.2.2.2.2.2.2⟩
 go_wp2_with fail
 refine (c_l2All (B := B) (s0 := s0) (s1 := s1) (s2 := s2) (s3 := s3) (s4 := s4) 35 w6 hBk HM6.out h60).mono ?_
 rintro e w7 ⟨rfl, hB⟩
 have HX7 := hid (HX6.out.below hB)
 clear hB x0 x1 x2 x3 x4 hlt hBk HM6
 obtain ⟨hlt, x0, x1, x2, x3, x4, hBx⟩ := HX7.out
 have hBk := Nat.le_trans hBw hBx.size
 have HM7 := hid (HMA.out.below (hBx.mono hBw))
 clear hBx
 by_cases hP6 : 5 < allBits 35 M.ns
 ·have HC := hid (show CodeIs M 6 from .big HP1'.out HP1.out HP2'.out HP3'.out HP4'.out (.inr hP6))
  go_wp2_with fail
  go_ret
  exact ⟨_, rfl, HC.out, HX7.out.2.2.2.2.2.2⟩
 have HC := hid (show CodeIs M 0 from .ok HP1'.out HP1.out HP2'.out HP3'.out HP4'.out (fun h => by rcases h with h | h <;> omega))
 go_wp2_with fail
 go_ret
 exact ⟨_, rfl, HC.out, HX7.out.2.2.2.2.2.2⟩
end Go.Proofs.YtlcgimadbpagfaaGreat
namespace Go.Proofs.YtlcgimadbpagfaaGreat
open Go.Lib
open Go.ChangeShapes Go.WideShapes Go.ChangeAt Go.RowKit Go.Maps
set_option linter.unusedVariables false
set_option maxRecDepth 100000
def plcs (kind : Int) (ns : List ND) : Nat → List Int
 | 0 => []
 | k + 1 => if (ns.getD k default).kind = kind then plcs kind ns k ++ [(k : Int)] else plcs kind ns k
theorem plcs_len (kind : Int) (ns : List ND) (k : Nat) : (plcs kind ns k).length ≤ k := by
 induction k with
 | zero => simp [plcs]
 | succ k ih => unfold plcs; split <;> (try simp only [List.length_append, List.length_cons, List.length_nil]) <;> omega
theorem kind_at {B : Nat} {w : World} {a : Option Addr} {len cap k : Nat} {ns : List ND} (h : NodesAt B w a len cap ns) (hk : k < len) :
  ∃ (nd : ND) (b off : Nat), ns.getD k default = nd ∧ a = some ⟨b, off, none⟩ ∧ b < B ∧ ∀ j, j < 9 → w.cell? ⟨b, off + k * 9 + j, none⟩ = nd.cells[j]? := by
 obtain ⟨nd, hk', b, off, hnd, hok, ha, hbB, hc⟩ := node_at h hk
 exact ⟨nd, b, off, by simp [List.getD, hk', hnd], ha, hbB, hc⟩
def PlcP (kind : Int) (ns : List ND) (w : World) (e : Ending) (w' : World) : Prop := ∃ v, e = .returned v ∧ w'.ownsInts w.heap.size 3 .i64 v (plcs kind ns ns.length) ∧ Below w.heap.size w w'
set_option maxHeartbeats 4000000 in
theorem c_kindPlaces {B : Nat} {a : Option Addr} {len cap : Nat} {ns : List ND} (kind : Int) (w : World) (hBw : B ≤ w.heap.size) (h : NodesAt B w a len cap ns) (h60 : len ≤ 60) :
  Calls Tryz.prog 100 #[.slice a len cap, .int .i64 kind] w (PlcP kind ns w) := by
 have HN := hid h
 have hlen : ns.length = len := h.1
 clear h
 obtain ⟨i0, hi, hz0, hz1, hz2⟩ := info_parts intInfo
 go_enter Tryz.func100, Tryz.ntmps100
 go_wp2_with fail
 go_loopw [5, 10] (fun s i wr => ∃ k : Nat, k ≤ len ∧ i = .int .i64 k ∧ wr.ownsInts w.heap.size 3 .i64 s (plcs kind ns k) ∧ Below w.heap.size w wr) (fun _ i _ => len - (intOf i).toNat)
 case atStart => exact ⟨0, by omega, rfl, World.ownsInts_nil _ _ _ _, Below.refl _ _⟩
 case round =>
  obtain ⟨k, hk, rfl, hown, hBk0⟩ := hrel
  have HB := hid hBk0
  have hBk := hBk0
  clear hBk0
  have HO0 := hid hown
  have hpl := plcs_len kind ns k
  clear hown
  by_cases hkl : k < len
  ·have hki : (k : Int) < len := by omega
   obtain ⟨nd, b, off, hnd, rfl, hbB, hc⟩ := kind_at ((HN.out.rows.below (hBk.mono hBw)).nodes) hkl
   obtain ⟨c0, c1, c2, c3, c4, c5, c6, c7, c8⟩ := node_cells hc
   have HP := hid (show plcs kind ns (k + 1) = if nd.kind = kind then plcs kind ns k ++ [(k : Int)] else plcs kind ns k by rw [plcs, hnd])
   clear hc hnd
   obtain ⟨k0, pa, pb, pc, n, m, si, sw, nm⟩ := nd
   simp only at c0 c1 c2 c3 c4 c5 c6 c7 c8 HP
   go_upto_region 5 with fail
   refine code_gen (R := fun wb => wb.cell? ⟨wr.heap.size, 0, none⟩ = some (.int .i64 k0) ∧ Below wr.heap.size wr wb) ⟨by simp, by go_grown⟩ ?_
   rintro wb ⟨z0, hBb⟩
   have HO := hid (ownI_below HO0.out hBb)
   have HBB := hid (HB.out.trans (hBb.mono HB.out.size))
   have hsz := HBB.out.size
   clear hBb c0 c1 c2 c3 c4 c5 c6 c7 c8 HO0 hBk
   by_cases hkk : k0 = kind
   ·rw [if_pos hkk] at HP
    go_wp2_with (first | (at_builtin; refine wpList_append_own_at _ rfl _ _ 24 rfl w.heap.size 3 i0 (.int .i64 0) 1 8 Tryz.underlying24 hi hz0 hz1 hz2 rfl (by decide) _ _ _ rfl (HO.out.1.alloc _) ⟨wb.heap.size, 0, none⟩ 1 1 [.int .i64 (k : Int)] rfl rfl (cell_one_new _ _ _) (ints_oneCell .i64 [(k : Int)]) (by unfold maxLen; omega) (by omega) (by simp; omega) ?_; intro v' w1 hown' hgrow hnil hloc) | go_in)
    have HA := hid (HO.out.appended hown' (WalkArith.wf_i64 (by omega)))
    go_roundw
    case rel => exact ⟨k + 1, by omega, by go_num, by rw [HP.out]; exact HA.out, own_grow HBB.out HO.out hgrow⟩
    case measure => simp [intOf] <;> omega
   ·rw [if_neg hkk] at HP
    go_wp2_with fail
    go_roundw
    case rel => exact ⟨k + 1, by omega, by go_num, by rw [HP.out]; exact HO.out, HBB.out⟩
    case measure => simp [intOf] <;> omega
  ·have hki : ¬ (k : Int) < len := by omega
   obtain rfl : k = len := by omega
   go_wp2_with fail
   go_ret
   exact ⟨_, rfl, by rw [hlen]; exact HO0.out, HB.out⟩
theorem Boxed.grow {s0 s1 s2 s3 s4 : SL} {w wb w1 : World} {ob : Obj} {v : Value} {zs : List Int} (h : Boxed s0 s1 s2 s3 s4 w wb) (ho : wb.ownsInts (w.heap.size + 1) 3 .i64 v zs) (hg : (wb.alloc ob).grownBy w1 v.ownBlock) : Boxed s0 s1 s2 s3 s4 w w1 := by
 obtain ⟨h1, c0, c1, c2, c3, c4, hB⟩ := h
 have hlt : w.heap.size < (wb.alloc ob).heap.size := Nat.lt_trans h1 (alloc_ltS _ _)
 have hk : w1.heap[w.heap.size]? = wb.heap[w.heap.size]? := (hg.block _ hlt (fun e => by have := (ho.1.lt _ e.symm).1; omega)).trans (Below.heap_alloc _ _ _ h1)
 have hc : ∀ i, w1.cell? ⟨w.heap.size, i, none⟩ = wb.cell? ⟨w.heap.size, i, none⟩ := fun i => World.cell?_of_block hk
 exact ⟨Nat.lt_of_lt_of_le hlt hg.size, (hc 0).trans c0, (hc 1).trans c1, (hc 2).trans c2, (hc 3).trans c3, (hc 4).trans c4, (hB.alloc hB.size ob).grown hg (Nat.le_of_lt hlt) (fun j hj => Nat.le_of_succ_le (ho.1.lt j hj).1)⟩
set_option maxHeartbeats 4000000 in
theorem c_l2Places {B : Nat} {s0 s1 s2 s3 s4 : SL} {M : MD} (kind : Int) (w : World) (hBw : B ≤ w.heap.size) (h : ModelAt B w s0 s1 s2 s3 s4 M) (h60 : s0.len ≤ 60) :
  Calls Tryz.prog 57 #[.agg (mcells s0 s1 s2 s3 s4).toArray, .int .i64 kind] w (PlcP kind M.ns w) := by
 have HN := hid h.ns
 have hlen : M.ns.length = s0.len := h.ns.1
 clear h
 obtain ⟨a, len, cap⟩ := s0
 simp only [mcells] at *
 obtain ⟨i0, hi, hz0, hz1, hz2⟩ := info_parts intInfo
 go_enter Tryz.func57, Tryz.ntmps57
 go_wp2_with fail
 go_loopw [5, 6] (fun s i wr => ∃ k : Nat, k ≤ len ∧ i = .int .i64 k ∧ wr.ownsInts (w.heap.size + 1) 3 .i64 s (plcs kind M.ns k) ∧ Boxed ⟨a, len, cap⟩ s1 s2 s3 s4 w wr) (fun _ i _ => len - (intOf i).toNat)
 case atStart => exact ⟨0, by omega, rfl, World.ownsInts_nil _ _ _ _, Boxed.new _ _ _ _ _ _ _⟩
 case round =>
  obtain ⟨k, hk, rfl, hown, hBk0⟩ := hrel
  have HXR := hid hBk0
  obtain ⟨hlt, b0, -, -, -, -, hBk⟩ := hBk0
  have HO0 := hid hown
  have hpl := plcs_len kind M.ns k
  clear hown
  by_cases hkl : k < len
  ·have hki : (k : Int) < len := by omega
   obtain ⟨nd, b, off, hnd, rfl, hbB, hc⟩ := kind_at ((HN.out.rows.below (hBk.mono hBw)).nodes) hkl
   obtain ⟨c0, c1, c2, c3, c4, c5, c6, c7, c8⟩ := node_cells hc
   have HP := hid (show plcs kind M.ns (k + 1) = if nd.kind = kind then plcs kind M.ns k ++ [(k : Int)] else plcs kind M.ns k by rw [plcs, hnd])
   clear hc hnd
   obtain ⟨k0, pa, pb, pc, n, m, si, sw, nm⟩ := nd
   simp only at c0 c1 c2 c3 c4 c5 c6 c7 c8 HP
   refine code_gen (R := fun wb => wb = wr) rfl ?_
   rintro wb rfl
   have HO := HO0
   have HBB := hid HXR.out.2.2.2.2.2.2
   have hsz := HBB.out.size
   clear HO0 hBk c1 c2 c3 c4 c5 c6 c7 c8
   by_cases hkk : k0 = kind
   ·rw [if_pos hkk] at HP
    go_wp2_with (first | (at_builtin; refine wpList_append_own_at _ rfl _ _ 24 rfl (w.heap.size + 1) 3 i0 (.int .i64 0) 1 8 Tryz.underlying24 hi hz0 hz1 hz2 rfl (by decide) _ _ _ rfl (HO.out.1.alloc _) ⟨wb.heap.size, 0, none⟩ 1 1 [.int .i64 (k : Int)] rfl rfl (cell_one_new _ _ _) (ints_oneCell .i64 [(k : Int)]) (by unfold maxLen; omega) (by omega) (by simp; omega) ?_; intro v' w1 hown' hgrow hnil hloc) | go_in)
    have HA := hid (HO.out.appended hown' (WalkArith.wf_i64 (by omega)))
    go_roundw
    case rel => exact ⟨k + 1, by omega, by go_num, by rw [HP.out]; exact HA.out, HXR.out.grow HO.out hgrow⟩
    case measure => simp [intOf] <;> omega
   ·rw [if_neg hkk] at HP
    go_wp2_with fail
    go_roundw
    case rel => exact ⟨k + 1, by omega, by go_num, by rw [HP.out]; exact HO.out, HXR.out⟩
    case measure => simp [intOf] <;> omega
  ·have hki : ¬ (k : Int) < len := by omega
   obtain rfl : k = len := by omega
   go_wp2_with fail
   go_ret
   exact ⟨_, rfl, by rw [hlen]; exact ⟨HO0.out.1.mono (Nat.le_succ _), HO0.out.2⟩, HXR.out.2.2.2.2.2.2⟩
end Go.Proofs.YtlcgimadbpagfaaGreat
namespace Go.Proofs.YtlcgimadbpagfaaGreat
open Go.Lib
open Go.ChangeShapes Go.WideShapes Go.ChangeAt Go.RowKit
set_option linter.unusedVariables false
set_option maxRecDepth 100000
end Go.Proofs.YtlcgimadbpagfaaGreat
namespace Go.Proofs.YtlcgimadbpagfaaGreat
open Go.Lib
open Go.ChangeShapes Go.WideShapes Go.ChangeAt Go.RowKit
set_option linter.unusedVariables false
set_option maxRecDepth 100000
theorem code0_len {M : MD} (h : CodeIs M 0) : M.ns.length ≤ 60 := by
 cases h
 rename_i h1 _ _ _ _ _
 exact Nat.le_of_not_lt (fun h => h1 (.inl h))
end Go.Proofs.YtlcgimadbpagfaaGreat
namespace Go.Proofs.YtlcgimadbpagfaaGreat
open Go.Lib
open Go.ChangeShapes Go.WideShapes Go.ChangeAt Go.RowKit Go.Maps
set_option linter.unusedVariables false
set_option maxRecDepth 100000
theorem Boxed.belowB {s0 s1 s2 s3 s4 : SL} {w wr w' : World} {B : Nat} (h : Boxed s0 s1 s2 s3 s4 w wr) (hb : Below B wr w') (hB : w.heap.size < B) : Boxed s0 s1 s2 s3 s4 w w' := by
 obtain ⟨h1, c0, c1, c2, c3, c4, hBl⟩ := h
 exact ⟨Nat.lt_of_lt_of_le h1 hb.size, (hb.cell (p := ⟨w.heap.size, 0, none⟩) hB).trans c0, (hb.cell (p := ⟨w.heap.size, 1, none⟩) hB).trans c1, (hb.cell (p := ⟨w.heap.size, 2, none⟩) hB).trans c2, (hb.cell (p := ⟨w.heap.size, 3, none⟩) hB).trans c3, (hb.cell (p := ⟨w.heap.size, 4, none⟩) hB).trans c4, hBl.trans (hb.mono (Nat.le_of_lt hB))⟩
end Go.Proofs.YtlcgimadbpagfaaGreat
