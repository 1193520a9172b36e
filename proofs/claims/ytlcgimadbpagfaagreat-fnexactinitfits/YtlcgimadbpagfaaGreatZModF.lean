/-
  Parts: ModF, ModG, ModH, shortened.
-/
import Derived.Test.YtlcgimadbpagfaaGreatZNSortJ
import Derived.Deep.OwnRows
namespace Go.Proofs.YtlcgimadbpagfaaGreat
open Go.Lib
open Go.ChangeShapes Go.WideShapes Go.ChangeAt Go.RowKit
set_option linter.unusedVariables false
set_option maxRecDepth 100000
def nodeGood (ns : List ND) (x : ND) : Prop := nOk ns x ∧ nSort ns x = (x.si, x.sw)
def nodesGood (ns : List ND) : Prop := ∀ i, i < ns.length → nodeGood (ns.take i) (ns.getD i default)
theorem nsp_is {ns : List ND} {x : ND} {w w' : World} {e : Ending} {u v : Int} {d : Bool} (huv : nSort ns x = (u, v)) (hd : decide (nOk ns x) = d) (h : NSP ns x w e w') : e = .returned (.tuple #[.agg #[.int .i64 u, .int .i64 v], .bool d]) ∧ Below w.heap.size w w' := by
 obtain ⟨h1, h2⟩ := h
 rw [huv, hd] at h1
 exact ⟨h1, h2⟩
theorem NodesAt.take {B : Nat} {w : World} {a : Option Addr} {len cap k : Nat} {ns : List ND} (h : NodesAt B w a len cap ns) (hk : k ≤ len) : NodesAt B w a k cap (ns.take k) := by
 obtain ⟨h1, h2, h3, h4, h5, h6⟩ := h
 refine ⟨by rw [List.length_take]; omega, by omega, h3, fun x hx => h4 x (List.mem_of_mem_take hx), h5, ?_⟩
 rcases h6 with h6 | ⟨b, off, e, hlt, hc⟩
 ·exact .inl (by omega)
 ·refine .inr ⟨b, off, e, hlt, fun i hi j hj => ?_⟩
  have hi' : i < ns.length := by rw [List.length_take] at hi; omega
  rw [hc i hi' j hj, List.getElem_take]
theorem keepN {gw b o : Nat} {v v0 v1 v2 v3 v4 v5 v6 v7 v8 : Value} {w w' : World} (hb : Below w.heap.size w w') (hl : gw < w.heap.size) (hl2 : b < w.heap.size) (y : w.cell? ⟨gw, 0, none⟩ = some v) (y0 : w.cell? ⟨b, o, none⟩ = some v0) (y1 : w.cell? ⟨b, o + 1, none⟩ = some v1) (y2 : w.cell? ⟨b, o + 2, none⟩ = some v2) (y3 : w.cell? ⟨b, o + 3, none⟩ = some v3) (y4 : w.cell? ⟨b, o + 4, none⟩ = some v4) (y5 : w.cell? ⟨b, o + 5, none⟩ = some v5) (y6 : w.cell? ⟨b, o + 6, none⟩ = some v6) (y7 : w.cell? ⟨b, o + 7, none⟩ = some v7) (y8 : w.cell? ⟨b, o + 8, none⟩ = some v8) :
  w'.cell? ⟨gw, 0, none⟩ = some v ∧ w'.cell? ⟨b, o, none⟩ = some v0 ∧ w'.cell? ⟨b, o + 1, none⟩ = some v1 ∧ w'.cell? ⟨b, o + 2, none⟩ = some v2 ∧ w'.cell? ⟨b, o + 3, none⟩ = some v3 ∧ w'.cell? ⟨b, o + 4, none⟩ = some v4 ∧ w'.cell? ⟨b, o + 5, none⟩ = some v5 ∧ w'.cell? ⟨b, o + 6, none⟩ = some v6 ∧ w'.cell? ⟨b, o + 7, none⟩ = some v7 ∧ w'.cell? ⟨b, o + 8, none⟩ = some v8 :=
 ⟨keepc hb hl y, keepc hb hl2 y0, keepc hb hl2 y1, keepc hb hl2 y2, keepc hb hl2 y3, keepc hb hl2 y4, keepc hb hl2 y5, keepc hb hl2 y6, keepc hb hl2 y7, keepc hb hl2 y8⟩
structure ZB (g : Nat) (w : World) : Prop where
 lt : g < w.heap.size
 c0 : w.cell? ⟨g, 0, none⟩ = some (.int .i64 0)
 c1 : w.cell? ⟨g, 1, none⟩ = some (.int .i64 0)
 f0 : w.frozen? ⟨g, 0, none⟩ = false
 f1 : w.frozen? ⟨g, 1, none⟩ = false
theorem ZB.new (w : World) : ZB w.heap.size (w.alloc (.cells #[.int .i64 0, .int .i64 0] 109)) :=
 ⟨alloc_ltS _ _, World.cell?_alloc_new _ _ _ _, World.cell?_alloc_new _ _ _ _, frozen_of_new _ _ _ _, frozen_of_new _ _ _ _⟩
theorem ZB.newD (w : World) : ZB w.heap.size (w.alloc (.cells #[.int .i64 0, .int .i64 0] 109)).drew := ⟨(ZB.new w).lt, (ZB.new w).c0, (ZB.new w).c1, (ZB.new w).f0, (ZB.new w).f1⟩
theorem ZB.below {g : Nat} {w w' : World} (h : ZB g w) (hB : Below w.heap.size w w') : ZB g w' :=
 ⟨Nat.lt_of_lt_of_le h.lt hB.size, (hB.cell (p := ⟨g, 0, none⟩) h.lt).trans h.c0, (hB.cell (p := ⟨g, 1, none⟩) h.lt).trans h.c1, (hB.frozen (p := ⟨g, 0, none⟩) h.lt).trans h.f0, (hB.frozen (p := ⟨g, 1, none⟩) h.lt).trans h.f1⟩
set_option maxHeartbeats 8000000 in
theorem c_l2Nodes {B : Nat} {s0 s1 s2 s3 s4 : SL} {M : MD} (w : World) (hBw : B ≤ w.heap.size) (h : ModelAt B w s0 s1 s2 s3 s4 M) :
  Calls Tryz.prog 117 #[.agg (mcells s0 s1 s2 s3 s4).toArray] w fun e w' => BoolIs (nodesGood M.ns) e ∧ Below w.heap.size w w' := by
 have HN := hid h.ns
 have hl0 : M.ns.length = s0.len := h.ns.1
 have hcap := h.ns.2.1
 have hm := Nat.le_trans h.ns.2.1 h.ns.2.2.1
 unfold maxLen at hm
 clear h
 obtain ⟨a0, l0, p0⟩ := s0
 simp only [mcells] at *
 go_enter Tryz.func117, Tryz.ntmps117
 go_wp2_with fail
 go_loopw [3] (fun i wr => ∃ k : Nat, k ≤ l0 ∧ i = .int .i64 k ∧ (∀ t, t < k → nodeGood (M.ns.take t) (M.ns.getD t default)) ∧ Boxed ⟨a0, l0, p0⟩ s1 s2 s3 s4 w wr) (fun i _ => l0 - (intOf i).toNat)
 case atStart => exact ⟨0, by omega, rfl, fun t h => by omega, Boxed.new _ _ _ _ _ _ _⟩
 case round =>
  obtain ⟨k, hk, rfl, hno, HX0⟩ := hrel
  have HNO := hid hno
  have HXR := hid HX0
  obtain ⟨hlt, b0, -, -, -, -, hBk⟩ := HX0
  have HB := hid hBk
  clear hno hBk
  by_cases hkl : k < l0
  ·have hki : (k : Int) < l0 := by omega
   have hkp : (k : Int) ≤ p0 := by omega
   have h1B : B ≤ wr.heap.size := Nat.le_trans hBw HB.out.size
   have hNr := (HN.out.rows.below (HB.out.mono hBw)).nodes
   have HNK := hid (hNr.take (Nat.le_of_lt hkl))
   obtain ⟨nd, hkn, b, off, hnd, hok, rfl, hbB, hc⟩ := node_at hNr hkl
   have hg : M.ns.getD k default = nd := by simp [List.getD, hkn, hnd]
   obtain ⟨c0, c1, c2, c3, c4, c5, c6, c7, c8⟩ := node_cells hc
   have hx : nd.name.size ≤ maxLen := hok.2.2.2.2.2.2.2.2
   have hbr : b < wr.heap.size := Nat.lt_of_lt_of_le hbB h1B
   clear hc hnd hok hNr
   obtain ⟨k0, pa, pb, pc, n, m, si, sw, nm⟩ := nd
   have HG := hid hg
   clear hg
   simp only at c0 c1 c2 c3 c4 c5 c6 c7 c8 hx
   obtain ⟨u, v, huv⟩ : ∃ u v, nSort (M.ns.take k) ⟨k0, pa, pb, pc, n, m, si, sw, nm⟩ = (u, v) := ⟨_, _, rfl⟩
   obtain ⟨d, hd⟩ : ∃ d, decide (nOk (M.ns.take k) ⟨k0, pa, pb, pc, n, m, si, sw, nm⟩) = d := ⟨_, rfl⟩
   have HUV := hid huv
   have HD := hid hd
   clear huv hd
   go_wp2_with fail
   refine wp_region_held_drew (S := (fun w' => w'.cell? ⟨w.heap.size, 0, none⟩ = some (.slice (some ⟨b, off, none⟩) l0 p0) ∧ w'.cell? ⟨b, off + k * 9, none⟩ = some (.int .i64 k0) ∧ w'.cell? ⟨b, off + k * 9 + 1, none⟩ = some (.int .i64 pa) ∧ w'.cell? ⟨b, off + k * 9 + 2, none⟩ = some (.int .i64 pb) ∧ w'.cell? ⟨b, off + k * 9 + 3, none⟩ = some (.int .i64 pc) ∧ w'.cell? ⟨b, off + k * 9 + 4, none⟩ = some (.int .i64 n) ∧ w'.cell? ⟨b, off + k * 9 + 5, none⟩ = some (.int .i64 m) ∧ w'.cell? ⟨b, off + k * 9 + 6, none⟩ = some (.int .i64 si) ∧ w'.cell? ⟨b, off + k * 9 + 7, none⟩ = some (.int .i64 sw) ∧ w'.cell? ⟨b, off + k * 9 + 8, none⟩ = some (.string nm))) (by kernel_rfl) ?_ (fun hHeld => ?_)
   ·exact keepN (by go_grown) hlt hbr b0 c0 c1 c2 c3 c4 c5 c6 c7 c8
   refine tL 0 (some 14) ?_
   refine tL 1 (some 15) ?_
   refine tL 2 (some 16) ?_
   refine tL 3 (some 17) ?_
   refine tL 4 (some 18) ?_
   refine tL 5 (some 19) ?_
   refine tL 6 (some 20) ?_
   refine tL 7 (some 21) ?_
   refine tL 8 (some 22) ?_
   refine wpAnyH_ready (rs := [9, 13]) (by kernel_rfl) (by simp) ?_
   refine .cons (o := _) rfl (fun K hK => ?_) ?_
   ·go_simp
    refine (c_NodeSortS ⟨k0, pa, pb, pc, n, m, si, sw, nm⟩ hx _ (by go_size) (NodesAt.below HNK.out (show Below B wr _ by go_grown))).mono ?_; intro e w4 hq; obtain ⟨rfl, hB4⟩ := nsp_is HUV.out HD.out hq; clear hq; (try (with_reducible have hZ := ZB.below (ZB.newD wr) hB4)); have hb4 : Below wr.heap.size wr w4 := bstep (by go_grown) (Nat.le_refl _) hB4; have ht4 := hb4.size; clear hB4; (try (obtain ⟨kE, kA, kB, kC, kD⟩ := hZ))
    (try go_wp2_with fail)
    (try clear hHeld)
    refine hK.out _ _ ?_ (fun hHeld => ?_)
    ·exact keepN (by go_grown) hlt hbr b0 c0 c1 c2 c3 c4 c5 c6 c7 c8
    clear hK K
    (try simp only [Act.put, zq1, zq2, zq3])
    refine tL 10 (some 13) ?_
    refine tL 11 (some 24) ?_
    refine tL 12 (some 25) ?_
    refine wpAnyH_ready (rs := [13]) (by kernel_rfl) (by simp) ?_
    refine .cons (o := _) rfl (fun K hK => ?_) .nil
    go_simp
    (try clear hHeld)
    refine hK.out _ _ ?_ (fun hHeld => ?_)
    ·exact keepN (by go_grown) hlt hbr b0 c0 c1 c2 c3 c4 c5 c6 c7 c8
    clear hK K
    (try simp only [Act.put, zq1, zq2, zq3])
    refine wpAnyH_ready (rs := [14]) (by kernel_rfl) (by simp) ?_
    refine .cons (o := _) rfl (fun K hK => ?_) .nil
    go_simp
    (try clear hHeld)
    refine hK.out _ _ ?_ (fun hHeld => ?_)
    ·exact keepN (by go_grown) hlt hbr b0 c0 c1 c2 c3 c4 c5 c6 c7 c8
    clear hK K
    (try simp only [Act.put, zq1, zq2, zq3])
    refine tL 15 (some 5) ?_
    refine wpAnyH_done (by kernel_rfl) ?_ _
    go_wp2_with fail
    clear hHeld
    refine code_gen (R := fun wc => wc.cell? ⟨w.heap.size, 0, none⟩ = some (.slice (some ⟨b, off, none⟩) l0 p0) ∧ wc.cell? ⟨b, off + k * 9 + 6, none⟩ = some (.int .i64 si) ∧ wc.cell? ⟨b, off + k * 9 + 7, none⟩ = some (.int .i64 sw) ∧ wc.cell? ⟨w4.heap.size, 0, none⟩ = some (.int .i64 u) ∧ wc.cell? ⟨w4.heap.size, 1, none⟩ = some (.int .i64 v) ∧ Below wr.heap.size wr wc) ⟨keepc (by go_grown) hlt b0, keepc (by go_grown) hbr c6, keepc (by go_grown) hbr c7, by simp, by simp, by go_grown⟩ ?_
    clear b0 c0 c1 c2 c3 c4 c5 c6 c7 c8 hb4 ht4
    (try clear kE kA kB kC kD)
    rintro wc ⟨b0, c6, c7, e0, e1, hBc⟩
    have HBC := hid hBc
    clear hBc
    cases d
    ·go_quiet (fail)
     go_wp2_with fail
     go_ret
     exact ⟨BoolIs.no (fun hall => by have hgd := hall k (by omega); rw [HG.out] at hgd; have := HD.out; simp only [decide_eq_false_iff_not] at this; exact this hgd.1), below_drewN (HB.out.trans (HBC.out.mono HB.out.size)) _⟩
    ·by_cases hu : u = si
     ·subst hu
      by_cases hv : v = sw
      ·subst hv
       have HYES := hid (show ∀ t, t < k + 1 → nodeGood (M.ns.take t) (M.ns.getD t default) from fun t ht => by
        rcases Nat.lt_or_ge t k with h | h
        ·exact HNO.out t h
        ·obtain rfl : t = k := by omega
         rw [HG.out]; exact ⟨by have := HD.out; simpa using this, HUV.out⟩)
       go_quiet (fail)
       go_wp2_with fail
       go_roundw
       case rel => exact ⟨k + 1, by omega, by go_num, HYES.out, (HXR.out.below HBC.out).drewN _⟩
       case measure => simp [intOf]; omega
      ·have q2 : (v == sw) = false := by simpa using hv
       go_quiet (fail)
       go_wp2_with fail
       go_ret
       exact ⟨BoolIs.no (fun hall => by have hgd := hall k (by omega); rw [HG.out] at hgd; have h2 := hgd.2; rw [HUV.out] at h2; simp only [Prod.mk.injEq] at h2; exact hv h2.2), below_drewN (HB.out.trans (HBC.out.mono HB.out.size)) _⟩
     ·have q2 : (u == si) = false := by simpa using hu
      go_quiet (fail)
      go_wp2_with fail
      go_ret
      exact ⟨BoolIs.no (fun hall => by have hgd := hall k (by omega); rw [HG.out] at hgd; have h2 := hgd.2; rw [HUV.out] at h2; simp only [Prod.mk.injEq] at h2; exact hu h2.1), below_drewN (HB.out.trans (HBC.out.mono HB.out.size)) _⟩
   refine .cons (o := _) rfl (fun K hK => ?_) ?_
   ·go_simp
    (try clear hHeld)
    refine hK.out _ _ ?_ (fun hHeld => ?_)
    ·exact keepN (by go_grown) hlt hbr b0 c0 c1 c2 c3 c4 c5 c6 c7 c8
    clear hK K
    (try simp only [Act.put, zq1, zq2, zq3])
    refine wpAnyH_ready (rs := [9]) (by kernel_rfl) (by simp) ?_
    refine .cons (o := _) rfl (fun K hK => ?_) .nil
    go_simp
    refine (c_NodeSortS ⟨k0, pa, pb, pc, n, m, si, sw, nm⟩ hx _ (by go_size) (NodesAt.below HNK.out (show Below B wr _ by go_grown))).mono ?_; intro e w4 hq; obtain ⟨rfl, hB4⟩ := nsp_is HUV.out HD.out hq; clear hq; (try (with_reducible have hZ := ZB.below (ZB.newD wr) hB4)); have hb4 : Below wr.heap.size wr w4 := bstep (by go_grown) (Nat.le_refl _) hB4; have ht4 := hb4.size; clear hB4; (try (obtain ⟨kE, kA, kB, kC, kD⟩ := hZ))
    (try go_wp2_with fail)
    (try clear hHeld)
    refine hK.out _ _ ?_ (fun hHeld => ?_)
    ·exact keepN (by go_grown) hlt hbr b0 c0 c1 c2 c3 c4 c5 c6 c7 c8
    clear hK K
    (try simp only [Act.put, zq1, zq2, zq3])
    refine tL 10 (some 13) ?_
    refine tL 11 (some 24) ?_
    refine tL 12 (some 25) ?_
    refine wpAnyH_ready (rs := [14]) (by kernel_rfl) (by simp) ?_
    refine .cons (o := _) rfl (fun K hK => ?_) .nil
    go_simp
    (try clear hHeld)
    refine hK.out _ _ ?_ (fun hHeld => ?_)
    ·exact keepN (by go_grown) hlt hbr b0 c0 c1 c2 c3 c4 c5 c6 c7 c8
    clear hK K
    (try simp only [Act.put, zq1, zq2, zq3])
    refine tL 15 (some 5) ?_
    refine wpAnyH_done (by kernel_rfl) ?_ _
    go_wp2_with fail
    clear hHeld
    refine code_gen (R := fun wc => wc.cell? ⟨w.heap.size, 0, none⟩ = some (.slice (some ⟨b, off, none⟩) l0 p0) ∧ wc.cell? ⟨b, off + k * 9 + 6, none⟩ = some (.int .i64 si) ∧ wc.cell? ⟨b, off + k * 9 + 7, none⟩ = some (.int .i64 sw) ∧ wc.cell? ⟨wr.heap.size, 0, none⟩ = some (.int .i64 u) ∧ wc.cell? ⟨wr.heap.size, 1, none⟩ = some (.int .i64 v) ∧ Below wr.heap.size wr wc) ⟨keepc (by go_grown) hlt b0, keepc (by go_grown) hbr c6, keepc (by go_grown) hbr c7, set2_0 kA, set2_1 kB, by go_grown⟩ ?_
    clear b0 c0 c1 c2 c3 c4 c5 c6 c7 c8 hb4 ht4
    (try clear kE kA kB kC kD)
    rintro wc ⟨b0, c6, c7, e0, e1, hBc⟩
    have HBC := hid hBc
    clear hBc
    cases d
    ·go_quiet (fail)
     go_wp2_with fail
     go_ret
     exact ⟨BoolIs.no (fun hall => by have hgd := hall k (by omega); rw [HG.out] at hgd; have := HD.out; simp only [decide_eq_false_iff_not] at this; exact this hgd.1), below_drewN (HB.out.trans (HBC.out.mono HB.out.size)) _⟩
    ·by_cases hu : u = si
     ·subst hu
      by_cases hv : v = sw
      ·subst hv
       have HYES := hid (show ∀ t, t < k + 1 → nodeGood (M.ns.take t) (M.ns.getD t default) from fun t ht => by
        rcases Nat.lt_or_ge t k with h | h
        ·exact HNO.out t h
        ·obtain rfl : t = k := by omega
         rw [HG.out]; exact ⟨by have := HD.out; simpa using this, HUV.out⟩)
       go_quiet (fail)
       go_wp2_with fail
       go_roundw
       case rel => exact ⟨k + 1, by omega, by go_num, HYES.out, (HXR.out.below HBC.out).drewN _⟩
       case measure => simp [intOf]; omega
      ·have q2 : (v == sw) = false := by simpa using hv
       go_quiet (fail)
       go_wp2_with fail
       go_ret
       exact ⟨BoolIs.no (fun hall => by have hgd := hall k (by omega); rw [HG.out] at hgd; have h2 := hgd.2; rw [HUV.out] at h2; simp only [Prod.mk.injEq] at h2; exact hv h2.2), below_drewN (HB.out.trans (HBC.out.mono HB.out.size)) _⟩
     ·have q2 : (u == si) = false := by simpa using hu
      go_quiet (fail)
      go_wp2_with fail
      go_ret
      exact ⟨BoolIs.no (fun hall => by have hgd := hall k (by omega); rw [HG.out] at hgd; have h2 := hgd.2; rw [HUV.out] at h2; simp only [Prod.mk.injEq] at h2; exact hu h2.1), below_drewN (HB.out.trans (HBC.out.mono HB.out.size)) _⟩
   exact .nil
  ·have hki : ¬ (k : Int) < l0 := by omega
   go_wp2_with fail
   go_ret
   exact ⟨BoolIs.yes (fun t ht => HNO.out t (by omega)), HB.out⟩
end Go.Proofs.YtlcgimadbpagfaaGreat
namespace Go.Proofs.YtlcgimadbpagfaaGreat
open Go.Lib
set_option linter.unusedVariables false
def prt (ns : List ND) (j t : Nat) : Nat := (partAt (ns.getD j default) t).toNat
def pcAt (ns : List ND) (j : Nat) : Int := pcN (ns.getD j default).kind
inductive MadeOf (ns : List ND) (at_ : Nat) : Nat → Prop
 | self : MadeOf ns at_ at_
 | part (j t : Nat) (h : MadeOf ns at_ j) (ht : (t : Int) < pcAt ns j) : MadeOf ns at_ (prt ns j t)
def fixedN (ns : List ND) (at_ : Nat) : Prop := ∀ j, MadeOf ns at_ j → ¬ ((ns.getD j default).kind = 36 ∨ (ns.getD j default).kind = 35)
theorem pcN_le (k : Int) : pcN k ≤ 3 := by unfold pcN; split <;> (try split) <;> (try split) <;> (try split) <;> omega
theorem good_part {ns : List ND} (h : nodesGood ns) {j t : Nat} (hj : j < ns.length) (ht : (t : Int) < pcAt ns j) : 0 ≤ partAt (ns.getD j default) t ∧ prt ns j t < j := by
 obtain ⟨⟨h60, hp0, hpts, _⟩, _⟩ := h j hj
 have hlen : (ns.take j).length = j := by rw [List.length_take]; omega
 rw [hlen] at hpts
 have h3 := pcN_le (ns.getD j default).kind
 unfold pcAt at ht
 have ht3 : t = 0 ∨ t = 1 ∨ t = 2 := by omega
 have hk : ptOk j (ns.getD j default) t := by
  rcases ht3 with rfl | rfl | rfl
  ·exact hpts.1
  ·exact hpts.2.1
  ·exact hpts.2.2
 unfold ptOk at hk
 rw [if_pos ht] at hk
 unfold prt
 omega
theorem MadeOf.le {ns : List ND} (h : nodesGood ns) {at_ j : Nat} (ha : at_ < ns.length) (hm : MadeOf ns at_ j) : j ≤ at_ := by
 induction hm with
 | self => exact Nat.le_refl _
 | part j t hj ht ih =>
  have := good_part h (show j < ns.length by omega) ht
  omega
def MInv (ns : List ND) (at_ k : Nat) (s : Nat → Bool) : Prop :=
 s at_ = true ∧ (∀ j, s j = true → MadeOf ns at_ j) ∧ ∀ j, k ≤ j → s j = true → ∀ t : Nat, (t : Int) < pcAt ns j → s (prt ns j t) = true
theorem MInv.start (ns : List ND) (at_ : Nat) : MInv ns at_ (at_ + 1) (fun j => decide (j = at_)) := by
 refine ⟨by simp, ?_, ?_⟩
 ·intro j hj
  obtain rfl : j = at_ := by simpa using hj
  exact .self
 ·intro j hj hs
  have : j = at_ := by simpa using hs
  omega
theorem MInv.done {ns : List ND} {at_ : Nat} {s : Nat → Bool} (h : MInv ns at_ 0 s) (j : Nat) : s j = true ↔ MadeOf ns at_ j := by
 refine ⟨h.2.1 j, fun hm => ?_⟩
 induction hm with
 | self => exact h.1
 | part j t _ ht ih => exact h.2.2 j (Nat.zero_le _) ih t ht
theorem MInv.skip {ns : List ND} {at_ k : Nat} {s : Nat → Bool} (h : MInv ns at_ (k + 1) s) (hs : s k = false) : MInv ns at_ k s := by
 refine ⟨h.1, h.2.1, fun j hj hsj t ht => ?_⟩
 rcases Nat.lt_or_ge k j with hlt | hge
 ·exact h.2.2 j hlt hsj t ht
 ·obtain rfl : j = k := by omega
  rw [hs] at hsj; cases hsj
def MStep (ns : List ND) (at_ k t : Nat) (s s' : Nat → Bool) : Prop :=
 (∀ j, s j = true → s' j = true) ∧ (∀ j, k ≤ j → s' j = s j) ∧ (∀ j, s' j = true → MadeOf ns at_ j) ∧ ∀ u, u < t → s' (prt ns k u) = true
theorem MStep.start {ns : List ND} {at_ k : Nat} {s : Nat → Bool} (h : MInv ns at_ (k + 1) s) : MStep ns at_ k 0 s s := ⟨fun _ h => h, fun _ _ => rfl, h.2.1, fun u hu => by omega⟩
theorem MStep.next {ns : List ND} {at_ k t : Nat} {s s' : Nat → Bool} (h : MStep ns at_ k t s s') (hk : s k = true) (hg : nodesGood ns) (hkl : k < ns.length) (ht : (t : Int) < pcAt ns k) :
  MStep ns at_ k (t + 1) s (fun j => if j = prt ns k t then true else s' j) := by
 obtain ⟨h1, h2, h3, h4⟩ := h
 have hp := good_part hg hkl ht
 refine ⟨fun j hj => ?_, fun j hj => ?_, fun j hj => ?_, fun u hu => ?_⟩
 ·show (if _ then _ else _) = true
  split
  ·rfl
  ·exact h1 j hj
 ·show (if _ then _ else _) = _
  rw [if_neg (by omega)]; exact h2 j hj
 ·simp only at hj
  split at hj
  ·rename_i e; subst e; exact .part k t (h3 k (by rw [h2 k (Nat.le_refl _)]; exact hk)) ht
  ·exact h3 j hj
 ·show (if _ then _ else _) = true
  split
  ·rfl
  ·rename_i hne
   refine h4 u ?_
   rcases Nat.lt_or_ge u t with h | h
   ·exact h
   ·obtain rfl : u = t := by omega
    exact absurd rfl hne
theorem MStep.done {ns : List ND} {at_ k t : Nat} {s s' : Nat → Bool} (h : MInv ns at_ (k + 1) s) (hs : MStep ns at_ k t s s') (ht : pcAt ns k ≤ t) : MInv ns at_ k s' := by
 obtain ⟨h1, h2, h3, h4⟩ := hs
 refine ⟨h1 _ h.1, h3, fun j hj hsj u hu => ?_⟩
 rcases Nat.lt_or_ge k j with hlt | hge
 ·exact h1 _ (h.2.2 j hlt (by rw [← h2 j hj]; exact hsj) u hu)
 ·obtain rfl : j = k := by omega
  exact h4 u (by omega)
end Go.Proofs.YtlcgimadbpagfaaGreat
namespace Go.Proofs.YtlcgimadbpagfaaGreat
open Go.Lib
open Go.ChangeShapes Go.WideShapes Go.ChangeAt Go.RowKit
set_option linter.unusedVariables false
set_option maxRecDepth 100000
theorem boolInfo : (Tryz.prog.info? 4).map (fun i => (i.zero, i.size, i.bytes)) = some (some (.bool false), 1, 1) := by kernel_rfl
def SetAt (g l0 : Nat) (s : Nat → Bool) (w : World) : Prop := w.rowIs g 4 l0 (fun j => .bool (s j))
theorem SetAt.below {g l0 : Nat} {s : Nat → Bool} {w w' : World} (h : SetAt g l0 s w) (hb : Below w.heap.size w w') : SetAt g l0 s w' := h.of_block (hb.block _ h.lt)
theorem SetAt.put {g l0 : Nat} {s : Nat → Bool} {w : World} (h : SetAt g l0 s w) (i : Nat) : SetAt g l0 (fun j => if j = i then true else s j) (w.setCell ⟨g, i, none⟩ (.bool true)) :=
 (World.rowIs.set h i (.bool true)).congr (fun j _ => by show (if j = i then _ else _) = Value.bool (if j = i then true else s j); split <;> rfl)
theorem node_at' {B : Nat} {w : World} {a : Option Addr} {len cap k : Nat} {ns : List ND} (h : NodesAt B w a len cap ns) (hk : k < len) :
  ∃ (nd : ND) (b off : Nat), ns.getD k default = nd ∧ nd.ok ∧ a = some ⟨b, off, none⟩ ∧ b < B ∧ ∀ j, j < 9 → w.cell? ⟨b, off + k * 9 + j, none⟩ = nd.cells[j]? := by
 obtain ⟨nd, hk', b, off, hnd, hok, ha, hbB, hc⟩ := node_at h hk
 exact ⟨nd, b, off, by simp [List.getD, hk', hnd], hok, ha, hbB, hc⟩
set_option maxHeartbeats 8000000 in
theorem c_l2Made {B : Nat} {a0 : Option Addr} {l0 p0 : Nat} {ns : List ND} (at_ : Nat) (w : World) (hBw : B ≤ w.heap.size) (h : NodesAt B w a0 l0 p0 ns) (hg : nodesGood ns) (h60 : l0 ≤ 60) (ha : at_ < l0) :
  Calls Tryz.prog 192 #[.slice a0 l0 p0, .int .i64 at_] w fun e w' => e = .returned (.slice (some ⟨w.heap.size, 0, none⟩) l0 l0) ∧ (∃ s, SetAt w.heap.size l0 s w' ∧ (∀ j, s j = true ↔ MadeOf ns at_ j)) ∧ Below w.heap.size w w' := by
 have HN := hid h
 have hl0 : ns.length = l0 := h.1
 have HGD := hid hg
 clear h hg
 have hmk := run_make_row' (P := Tryz.prog) 201 4 (.bool false) 1 Tryz.underlying201 boolInfo rfl .i64 .i64 l0 (by omega) (by omega) w
 have r0 := World.rowIs_made w (.bool false) l0 4
 have x0 := r0.cell ha
 have x1 := r0.frozen at_
 have hai : (at_ : Int) < l0 := by omega
 have hsz : ((madeCells #[Value.bool false] l0).setIfInBounds at_ (.bool true)).size = l0 := by simp [size_madeCells]
 have hr0 := World.rowIs_alloc w ((madeCells #[Value.bool false] l0).setIfInBounds at_ (.bool true)) 4 (fun j => .bool (decide (j = at_))) (fun i hi => by
  rw [hsz] at hi
  rw [Array.getElem?_setIfInBounds]
  by_cases e : at_ = i
  ·subst e; rw [if_pos rfl, if_pos (by rw [size_madeCells]; exact ha)]; simp
  ·rw [if_neg e]
   have hf : decide (i = at_) = false := by simp; omega
   rw [hf]; simp [madeCells, hi, Nat.mod_one])
 rw [hsz] at hr0
 have hb0 : Below w.heap.size w (w.alloc (.cells ((madeCells #[Value.bool false] l0).setIfInBounds at_ (.bool true)) 4)) := (Below.refl w.heap.size w).alloc (Nat.le_refl _) _
 have HR0 := hid (show SetAt w.heap.size l0 (fun j => decide (j = at_)) _ from hr0)
 have HB0 := hid hb0
 clear hr0 hb0 hsz
 clear r0
 go_enter Tryz.func192, Tryz.ntmps192
 go_wp2_with fail
 clear hmk x0 x1
 go_loopw [6] (fun i wr => ∃ (k : Nat) (s : Nat → Bool), k ≤ at_ + 1 ∧ i = .int .i64 ((k : Int) - 1) ∧ SetAt w.heap.size l0 s wr ∧ MInv ns at_ k s ∧ Below w.heap.size w wr) (fun i _ => (intOf i + 1).toNat)
 case atStart => exact ⟨at_ + 1, _, Nat.le_refl _, by simp, HR0.out, MInv.start _ _, HB0.out⟩
 case round =>
  obtain ⟨k, s, hk, rfl, hset, hinv, hBr⟩ := hrel
  have HS := hid hset
  have HI := hid hinv
  have HB := hid hBr
  clear hset hinv hBr HR0 HB0
  cases k with
  | zero =>
   go_wp2_with fail
   go_ret
   exact ⟨rfl, ⟨s, HS.out, HI.out.done⟩, HB.out⟩
  | succ q =>
   have hq1 : ((q + 1 : Nat) : Int) - 1 = q := by omega
   rw [hq1]
   have hql : q < l0 := by omega
   have hqi : (q : Int) < l0 := by omega
   have hq0 : (0 : Int) ≤ q := by omega
   have y0 : wr.cell? ⟨w.heap.size, q, none⟩ = some (.bool (s q)) := World.rowIs.cell HS.out hql
   have hgl := World.rowIs.lt HS.out
   cases hs : s q with
   | false =>
    rw [hs] at y0
    go_wp2_with fail
    go_roundw
    case rel => exact ⟨q, s, by omega, by go_num, HS.out, HI.out.skip hs, HB.out⟩
    case measure => simp [intOf] <;> omega
   | true =>
    rw [hs] at y0
    have h1B : B ≤ wr.heap.size := Nat.le_trans hBw HB.out.size
    obtain ⟨nd, b, off, hnd, hok, rfl, hbB, hc⟩ := node_at' ((HN.out.rows.below (HB.out.mono hBw)).nodes) hql
    obtain ⟨c0, c1, c2, c3, -, -, -, -, -⟩ := node_cells hc
    have HND := hid hnd
    clear hc hok hnd
    go_wp2_with fail
    go_region
    have hgn : wr.heap.size ≠ w.heap.size := by omega
    have hR1 : SetAt w.heap.size l0 s (wr.alloc (.cells #[.int .i64 nd.a, .int .i64 nd.b, .int .i64 nd.c] 3)).drew := HS.out.below (show Below wr.heap.size wr _ by go_grown)
    have hP1 : (wr.alloc (.cells #[.int .i64 nd.a, .int .i64 nd.b, .int .i64 nd.c] 3)).drew.rowIs wr.heap.size 3 3 (fun u => .int .i64 (partAt nd u)) := (World.rowIs_alloc wr #[.int .i64 nd.a, .int .i64 nd.b, .int .i64 nd.c] 3 (fun u => .int .i64 (partAt nd u)) (fun i hi => by
     have : i = 0 ∨ i = 1 ∨ i = 2 := by simp at hi; omega
     rcases this with rfl | rfl | rfl <;> rfl)).drew
    have hB1 : Below w.heap.size w (wr.alloc (.cells #[.int .i64 nd.a, .int .i64 nd.b, .int .i64 nd.c] 3)).drew := HB.out.trans (show Below w.heap.size wr _ from (show Below wr.heap.size wr _ by go_grown).mono HB.out.size)
    have HR1 := hid hR1
    have HP1 := hid hP1
    have HB1 := hid hB1
    clear hR1 hP1 hB1 c0 c1 c2 c3 y0
    go_wp2_with fail
    go_loopw [8] (fun j wq => ∃ (t : Nat) (s' : Nat → Bool), t ≤ 3 ∧ j = .int .i64 t ∧ SetAt w.heap.size l0 s' wq ∧ wq.rowIs wr.heap.size 3 3 (fun u => .int .i64 (partAt nd u)) ∧ MStep ns at_ q t s s' ∧ Below w.heap.size w wq) (fun j _ => 3 - (intOf j).toNat)
    case atStart => exact ⟨0, s, by omega, rfl, HR1.out, HP1.out, MStep.start HI.out, HB1.out⟩
    case round =>
     obtain ⟨t, s', ht3, rfl, hset, hpts, hst, hBq⟩ := hrel
     have HSQ := hid hset
     have HPQ := hid hpts
     have HST := hid hst
     have HBQ := hid hBq
     clear hset hpts hst hBq HR1 HP1 HB1
     obtain ⟨nd', b', off', hnd', -, he, hbB', hc⟩ := node_at' ((HN.out.rows.below (HBQ.out.mono hBw)).nodes) hql
     obtain rfl : nd = nd' := HND.out.symm.trans hnd'
     simp only [Option.some.injEq, Addr.mk.injEq, and_true] at he
     obtain ⟨rfl, rfl⟩ := he
     have c0 := (node_cells hc).1
     clear hc hnd'
     have hpc : pcAt ns q = pcN nd.kind := by unfold pcAt; rw [HND.out]
     by_cases htp : (t : Int) < pcN nd.kind
     ·have h3 := pcN_le nd.kind
      have ht3 : (t : Int) < 3 := by omega
      obtain ⟨hp0, hpq⟩ := good_part HGD.out (show q < ns.length by omega) (show (t : Int) < pcAt ns q by rw [hpc]; exact htp)
      rw [HND.out] at hp0
      have hpe : partAt nd t = (prt ns q t : Int) := by unfold prt; rw [HND.out]; omega
      have z0 := HPQ.out.cell (show t < 3 by omega)
      rw [hpe] at z0
      generalize hP : prt ns q t = P at z0 hpq
      have hPl : P < l0 := by omega
      have hPi : (P : Int) < l0 := by omega
      have z1 := World.rowIs.cell HSQ.out hPl
      have z2 := World.rowIs.frozen HSQ.out P
      have HPP := hid hP
      clear hP hpe hpc hp0
      go_wp2_with fail
      refine (c_l2Parts _ _).mono ?_
      rintro e w' ⟨rfl, rfl⟩
      go_wp2_with fail
      go_roundw
      case rel => exact ⟨t + 1, _, by omega, by go_num, HSQ.out.put P, HPQ.out.setOther hgn _, by have := HST.out.next hs HGD.out (by omega) (by unfold pcAt; rw [HND.out]; exact htp); rw [HPP.out] at this; exact this, HBQ.out.setCell (Nat.le_refl _) _⟩
      case measure => simp [intOf] <;> omega
     ·go_wp2_with fail
      refine (c_l2Parts _ _).mono ?_
      rintro e w' ⟨rfl, rfl⟩
      go_wp2_with fail
      go_roundw
      case rel => exact ⟨q, s', by omega, by go_num, HSQ.out, HST.out.done HI.out (by rw [hpc]; omega), HBQ.out⟩
      case measure => simp [intOf] <;> omega
end Go.Proofs.YtlcgimadbpagfaaGreat
