/-
  Whether all binds are right: the model.
-/
import Derived.Test.YtbkcecilbpngcaaGreatRows
import Derived.Test.YtbkcecilbpngcaaGreatPaA
import Derived.Test.YtbkcecilbpngcaaGreatNodeM
import Derived.Test.YtbkcecilbpngcaaGreatNames
import Derived.Test.YtbkcecilbpngcaaGreatNodeL
import Derived.Test.YtbkcecilbpngcaaGreatResP
import Derived.Test.YtbkcecilbpngcaaGreatModD
import Derived.Test.YtbkcecilbpngcaaGreatModA
import Derived.Test.YtbkcecilbpngcaaGreatModB
import Derived.Test.YtbkcecilbpngcaaGreatModE
import Derived.Test.YtbkcecilbpngcaaGreatModF
import Derived.Test.YtbkcecilbpngcaaGreatModG
import Derived.Test.YtbkcecilbpngcaaGreatModH
import Derived.Test.YtbkcecilbpngcaaGreatModI
import Derived.WalkKit
import Derived.ProofKit
import Derived.OpenShut
import Derived.WalkSpells
import Derived.WalkLawsBesides
import Derived.Outline
import Derived.BigQuiet
import Derived.Handy
import Derived.LoopTactic
import Derived.Deep.Light
import Derived.Deep.RegionWith
import Derived.Deep.RegionHeld3
import Derived.Deep.DeepCutAuto
import Derived.Lib.Hide
import Derived.Deep.OwnRows
namespace Go.Proofs.YtbkcecilbpngcaaGreat
open Go.ChangeShapes Go.WideShapes Go.ChangeAt Go.RowKit
set_option linter.unusedVariables false
set_option maxRecDepth 100000


/-- A bind of a state and a word that stands for each cell of it. -/
def wordN (ns : List ND) (b : BD) : Prop := (0 ≤ b.st ∧ b.st < ns.length) ∧ (0 ≤ b.nd ∧ b.nd < ns.length) ∧ (ns.getD b.st.toNat default).kind = 36 ∧ sortAt ns b.nd = (0, (sortAt ns b.st).2)
def initN (ns : List ND) (b : BD) : Prop := (wordN ns b ∨ boundN ns b) ∧ fixedN ns b.nd.toNat
def bindsN (M : MD) : Prop := (∀ t, t < M.is.length → initN M.ns (M.is.getD t default)) ∧ ∀ t, t < M.xs.length → boundN M.ns (M.xs.getD t default)
theorem keep7 {gw g b o o2 : Nat} {v0 v1 v2 v3 v5 v6 v7 : Value} {w w' : World} (hb : Below w.heap.size w w') (hl : gw < w.heap.size) (hl1 : g < w.heap.size) (hl2 : b < w.heap.size) (y0 : w.cell? ⟨gw, 0, none⟩ = some v0) (y1 : w.cell? ⟨g, 0, none⟩ = some v1) (y2 : w.cell? ⟨g, 1, none⟩ = some v2) (y3 : w.cell? ⟨b, o, none⟩ = some v3) (y5 : w.cell? ⟨b, o + 7, none⟩ = some v5) (y6 : w.cell? ⟨b, o2 + 6, none⟩ = some v6) (y7 : w.cell? ⟨b, o2 + 7, none⟩ = some v7) :
    w'.cell? ⟨gw, 0, none⟩ = some v0 ∧ w'.cell? ⟨g, 0, none⟩ = some v1 ∧ w'.cell? ⟨g, 1, none⟩ = some v2 ∧ w'.cell? ⟨b, o, none⟩ = some v3 ∧ w'.cell? ⟨b, o + 7, none⟩ = some v5 ∧ w'.cell? ⟨b, o2 + 6, none⟩ = some v6 ∧ w'.cell? ⟨b, o2 + 7, none⟩ = some v7 :=
  ⟨keepc hb hl y0, keepc hb hl1 y1, keepc hb hl1 y2, keepc hb hl2 y3, keepc hb hl2 y5, keepc hb hl2 y6, keepc hb hl2 y7⟩
/-- The world of a round: the model's box, the bind at g, its copy at g + 1. -/
structure WB (s0 s1 s2 s3 s4 : SL) (w : World) (g : Nat) (st nd wn : Int) (wb : World) : Prop where
  box : Boxed s0 s1 s2 s3 s4 w wb
  lt : g + 1 < wb.heap.size
  z1 : wb.cell? ⟨g, 0, none⟩ = some (.int .i64 st)
  z2 : wb.cell? ⟨g, 1, none⟩ = some (.int .i64 nd)
  v1 : wb.cell? ⟨g + 1, 0, none⟩ = some (.int .i64 st)
  v2 : wb.cell? ⟨g + 1, 1, none⟩ = some (.int .i64 wn)
  fz : wb.frozen? ⟨g + 1, 1, none⟩ = false
theorem WB.below {s0 s1 s2 s3 s4 : SL} {w : World} {g : Nat} {st nd wn : Int} {wb w' : World} (h : WB s0 s1 s2 s3 s4 w g st nd wn wb) (hb : Below wb.heap.size wb w') : WB s0 s1 s2 s3 s4 w g st nd wn w' :=
  ⟨h.box.below hb, Nat.lt_of_lt_of_le h.lt hb.size, keepc hb (Nat.lt_of_succ_lt h.lt) h.z1, keepc hb (Nat.lt_of_succ_lt h.lt) h.z2, keepc hb h.lt h.v1, keepc hb h.lt h.v2, (hb.frozen (p := ⟨g + 1, 1, none⟩) h.lt).trans h.fz⟩
theorem Boxed.setCell {s0 s1 s2 s3 s4 : SL} {w wr : World} (h : Boxed s0 s1 s2 s3 s4 w wr) {a : Addr} (ha : w.heap.size < a.block) (v : Value) : Boxed s0 s1 s2 s3 s4 w (wr.setCell a v) := by
  obtain ⟨h1, c0, c1, c2, c3, c4, hB⟩ := h
  have ho : ∀ i, (wr.setCell a v).cell? ⟨w.heap.size, i, none⟩ = wr.cell? ⟨w.heap.size, i, none⟩ := fun i => World.cell?_setCell_other _ _ _ _ (by intro e; rw [e] at ha; exact Nat.lt_irrefl _ ha)
  exact ⟨by simpa using h1, (ho 0).trans c0, (ho 1).trans c1, (ho 2).trans c2, (ho 3).trans c3, (ho 4).trans c4, hB.setCell (Nat.le_of_lt ha) v⟩
theorem WB.put {s0 s1 s2 s3 s4 : SL} {w : World} {g : Nat} {st nd wn : Int} {wb : World} (h : WB s0 s1 s2 s3 s4 w g st nd wn wb) (hg : w.heap.size < g) (x : Int) : WB s0 s1 s2 s3 s4 w g st nd x (wb.setCell ⟨g + 1, 1, none⟩ (.int .i64 x)) :=
  ⟨h.box.setCell (by simp; omega) _, by simpa using h.lt, (World.cell?_setCell_other _ _ _ _ (by simp)).trans h.z1, (World.cell?_setCell_other _ _ _ _ (by simp)).trans h.z2, (World.cell?_setCell_other _ _ _ _ (by simp)).trans h.v1, World.cell?_setCell_same _ _ _ h.v2, by rw [World.frozen?_setCell]; exact h.fz⟩
theorem wordN_bound {ns : List ND} {b : BD} (h : wordN ns b) : boundN ns ⟨b.st, b.st⟩ := ⟨h.1, h.1, h.2.2.1, rfl⟩

set_option maxHeartbeats 8000000 in
theorem c_l2Binds {B : Nat} {s0 s1 s2 s3 s4 : SL} {M : MD} (w : World) (hBw : B ≤ w.heap.size) (h : ModelAt B w s0 s1 s2 s3 s4 M) (hg : nodesGood M.ns) (h60 : s0.len ≤ 60) :
    Calls Tryz.prog 25 #[.agg (mcells s0 s1 s2 s3 s4).toArray] w fun e w' => BoolIs (bindsN M) e ∧ Below w.heap.size w w' := by
  have HMA := Go.Lib.hid h
  have HN := Go.Lib.hid h.ns
  have HI := Go.Lib.hid h.is
  have HXS := Go.Lib.hid h.xs
  have hl0 : M.ns.length = s0.len := h.ns.1
  have hl1 : M.is.length = s1.len := h.is.1
  have hl2 : M.xs.length = s2.len := h.xs.1
  have hm1 := Nat.le_trans h.is.2.1 h.is.2.2.1
  have hm2 := Nat.le_trans h.xs.2.1 h.xs.2.2.1
  unfold maxLen at hm1 hm2
  have HGD := Go.Lib.hid hg
  clear h hg
  obtain ⟨a0, l0, p0⟩ := s0
  obtain ⟨a1, l1, p1⟩ := s1
  obtain ⟨a2, l2, p2⟩ := s2
  simp only [mcells] at *
  have hwl : wrap64 ((l0 : Int) - 1) = (l0 : Int) - 1 := IntWalk.wrap64_in _ (by omega)
  have hwl2 : IntKind.i64.wrap ((l0 : Int) - 1) = (l0 : Int) - 1 := (IntWalk.i64_left _).trans hwl
  go_enter Tryz.func25, Tryz.ntmps25
  go_wp2_with fail
  go_loopw [3] (fun i wr => ∃ k : Nat, k ≤ l1 ∧ i = .int .i64 k ∧ (∀ t, t < k → initN M.ns (M.is.getD t default)) ∧ Boxed ⟨a0, l0, p0⟩ ⟨a1, l1, p1⟩ ⟨a2, l2, p2⟩ s3 s4 w wr) (fun i _ => l1 - (intOf i).toNat)
  case atStart => exact ⟨0, by omega, rfl, fun t h => by omega, Boxed.new _ _ _ _ _ _ _⟩
  case round =>
    obtain ⟨k, hk, rfl, hno, HX0⟩ := hrel
    have HNO := Go.Lib.hid hno
    have HXR := Go.Lib.hid HX0
    obtain ⟨hlt, b0, b1, b2, -, -, hBk⟩ := HX0
    have HB := Go.Lib.hid hBk
    clear hno hBk
    by_cases hkl : k < l1
    · have hki : (k : Int) < l1 := by omega
      obtain ⟨bd, bb, bo, hbd, -, rfl, hbB, e0, e1⟩ := bind_at (HI.out.below (HB.out.mono hBw)) hkl
      have HBD := Go.Lib.hid hbd
      clear hbd b2
      obtain ⟨st, nd⟩ := bd
      simp only at e0 e1
      go_upto_region 6 with fail
      refine code_gen (R := fun wb => WB ⟨a0, l0, p0⟩ ⟨some ⟨bb, bo, none⟩, l1, p1⟩ ⟨a2, l2, p2⟩ s3 s4 w wr.heap.size st nd nd wb) ?_ ?_
      · exact ⟨HXR.out.below (show Below wr.heap.size wr _ by go_grown), by simp, by simp, by simp, by simp, by simp, by simp⟩
      intro wb hwb
      have HWB := Go.Lib.hid hwb
      have hgl := Nat.lt_of_succ_lt hwb.lt
      have z1 := hwb.z1
      have z2 := hwb.z2
      obtain ⟨hltb, z0, -, -, -, -, hBb⟩ := hwb.box
      have HBB := Go.Lib.hid hBb
      generalize hgg : wr.heap.size = g at *
      clear hwb hBb e0 e1 b0 b1 hgg HXR HB
      go_cut [64] from 7 to 78 (fun s64 wx => ∃ rr : Bool, s64 = .bool rr ∧ (rr = true ↔ wordN M.ns ⟨st, nd⟩) ∧ WB ⟨a0, l0, p0⟩ ⟨some ⟨bb, bo, none⟩, l1, p1⟩ ⟨a2, l2, p2⟩ s3 s4 w g st nd nd wx)
      case first =>
        by_cases hs : st < 0 ∨ (l0 : Int) - 1 < st
        · have HNB := Go.Lib.hid (show ¬ wordN M.ns ⟨st, nd⟩ from fun hb => by have h1 := hb.1.1; have h2 := hb.1.2; simp only at h1 h2; omega)
          refine wp_region_held_drew (S := (fun w' => w'.cell? ⟨w.heap.size, 0, none⟩ = some (.slice a0 l0 p0) ∧ w'.cell? ⟨g, 0, none⟩ = some (.int .i64 st) ∧ w'.cell? ⟨g, 1, none⟩ = some (.int .i64 nd))) (by kernel_rfl) ?_ (fun hHeld => ?_)
          · exact ⟨keepc (by go_grown) hltb z0, keepc (by go_grown) hgl z1, keepc (by go_grown) hgl z2⟩
          refine tL 0 (some 20) ?_
          refine tL 1 (some 21) ?_
          refine tL 2 (some 22) ?_
          refine tL 3 (some 23) ?_
          refine tL 4 (some 24) ?_
          refine tL 5 (some 25) ?_
          refine wpAnyH_ready (rs := [6]) (by kernel_rfl) (by simp) ?_
          refine AllReadyH.cons (o := _) rfl (fun K hK => ?_) AllReadyH.nil
          go_simp
          refine (c_l1In_f _ _ _ hs _).mono ?_; rintro e w' ⟨rfl, rfl⟩
          (try go_wp2_with fail)
          (try clear hHeld)
          refine hK.out _ _ ?_ (fun hHeld => ?_)
          · exact ⟨keepc (by go_grown) hltb z0, keepc (by go_grown) hgl z1, keepc (by go_grown) hgl z2⟩
          clear hK K
          (try simp only [Act.put, List.setIfInBounds_toArray, List.set_cons_zero, List.set_cons_succ])
          refine tL 7 (some 27) ?_
          refine tU 8 (some 28) ?_
          refine tU 9 (some 29) ?_
          refine tU 10 (some 30) ?_
          refine tU 11 (some 31) ?_
          refine tU 12 (some 32) ?_
          refine tU 13 (some 33) ?_
          refine tU 14 (some 34) ?_
          refine tL 15 (some 35) ?_
          refine tL 16 (some 36) ?_
          refine tU 17 (some 37) ?_
          refine tU 18 (some 38) ?_
          refine tU 19 (some 39) ?_
          refine tU 20 (some 40) ?_
          refine tU 21 (some 41) ?_
          refine tU 22 (some 42) ?_
          refine tU 23 (some 43) ?_
          refine tU 24 (some 44) ?_
          refine tL 25 (some 45) ?_
          refine tL 26 (some 46) ?_
          refine tU 27 (some 47) ?_
          refine tU 28 (some 48) ?_
          refine tU 29 (some 49) ?_
          refine tU 30 (some 50) ?_
          refine tU 31 (some 51) ?_
          refine tU 32 (some 52) ?_
          refine tU 33 (some 53) ?_
          refine tU 34 (some 54) ?_
          refine tU 35 (some 55) ?_
          refine tU 36 (some 56) ?_
          refine tU 37 (some 57) ?_
          refine tU 38 (some 58) ?_
          refine tU 39 (some 59) ?_
          refine tU 40 (some 60) ?_
          refine tU 41 (some 61) ?_
          refine tU 42 (some 62) ?_
          refine tU 43 (some 63) ?_
          refine tL 44 (some 64) ?_
          refine wpAnyH_done (by kernel_rfl) ?_ _
          go_wp2_with fail
          go_meet
          exact ⟨false, rfl, ⟨fun h => (by cases h), fun h => absurd h HNB.out⟩, HWB.out.below (show Below wb.heap.size wb _ by go_grown)⟩
        · have hs1 : 0 ≤ st := by omega
          have hs2 : st ≤ (l0 : Int) - 1 := by omega
          by_cases hn : nd < 0 ∨ (l0 : Int) - 1 < nd
          · have HNB := Go.Lib.hid (show ¬ wordN M.ns ⟨st, nd⟩ from fun hb => by have h1 := hb.2.1.1; have h2 := hb.2.1.2; simp only at h1 h2; omega)
            clear hs
            refine wp_region_held_drew (S := (fun w' => w'.cell? ⟨w.heap.size, 0, none⟩ = some (.slice a0 l0 p0) ∧ w'.cell? ⟨g, 0, none⟩ = some (.int .i64 st) ∧ w'.cell? ⟨g, 1, none⟩ = some (.int .i64 nd))) (by kernel_rfl) ?_ (fun hHeld => ?_)
            · exact ⟨keepc (by go_grown) hltb z0, keepc (by go_grown) hgl z1, keepc (by go_grown) hgl z2⟩
            refine tL 0 (some 20) ?_
            refine tL 1 (some 21) ?_
            refine tL 2 (some 22) ?_
            refine tL 3 (some 23) ?_
            refine tL 4 (some 24) ?_
            refine tL 5 (some 25) ?_
            refine wpAnyH_ready (rs := [6]) (by kernel_rfl) (by simp) ?_
            refine AllReadyH.cons (o := _) rfl (fun K hK => ?_) AllReadyH.nil
            go_simp
            first | (with_reducible refine (c_l1In_t _ _ _ hs1 hs2 _).mono ?_; rintro e w' ⟨rfl, rfl⟩) | (refine (c_l1In_f _ _ _ hn _).mono ?_; rintro e w' ⟨rfl, rfl⟩)
            (try go_wp2_with fail)
            (try clear hHeld)
            refine hK.out _ _ ?_ (fun hHeld => ?_)
            · exact ⟨keepc (by go_grown) hltb z0, keepc (by go_grown) hgl z1, keepc (by go_grown) hgl z2⟩
            clear hK K
            (try simp only [Act.put, List.setIfInBounds_toArray, List.set_cons_zero, List.set_cons_succ])
            refine tL 7 (some 27) ?_
            refine tL 8 (some 28) ?_
            refine tL 9 (some 29) ?_
            refine tL 10 (some 30) ?_
            refine tL 11 (some 31) ?_
            refine tL 12 (some 32) ?_
            refine tL 13 (some 33) ?_
            refine wpAnyH_ready (rs := [14]) (by kernel_rfl) (by simp) ?_
            refine AllReadyH.cons (o := _) rfl (fun K hK => ?_) AllReadyH.nil
            go_simp
            first | (with_reducible refine (c_l1In_t _ _ _ hs1 hs2 _).mono ?_; rintro e w' ⟨rfl, rfl⟩) | (refine (c_l1In_f _ _ _ hn _).mono ?_; rintro e w' ⟨rfl, rfl⟩)
            (try go_wp2_with fail)
            (try clear hHeld)
            refine hK.out _ _ ?_ (fun hHeld => ?_)
            · exact ⟨keepc (by go_grown) hltb z0, keepc (by go_grown) hgl z1, keepc (by go_grown) hgl z2⟩
            clear hK K
            (try simp only [Act.put, List.setIfInBounds_toArray, List.set_cons_zero, List.set_cons_succ])
            refine tL 15 (some 35) ?_
            refine tL 16 (some 36) ?_
            refine tU 17 (some 37) ?_
            refine tU 18 (some 38) ?_
            refine tU 19 (some 39) ?_
            refine tU 20 (some 40) ?_
            refine tU 21 (some 41) ?_
            refine tU 22 (some 42) ?_
            refine tU 23 (some 43) ?_
            refine tU 24 (some 44) ?_
            refine tL 25 (some 45) ?_
            refine tL 26 (some 46) ?_
            refine tU 27 (some 47) ?_
            refine tU 28 (some 48) ?_
            refine tU 29 (some 49) ?_
            refine tU 30 (some 50) ?_
            refine tU 31 (some 51) ?_
            refine tU 32 (some 52) ?_
            refine tU 33 (some 53) ?_
            refine tU 34 (some 54) ?_
            refine tU 35 (some 55) ?_
            refine tU 36 (some 56) ?_
            refine tU 37 (some 57) ?_
            refine tU 38 (some 58) ?_
            refine tU 39 (some 59) ?_
            refine tU 40 (some 60) ?_
            refine tU 41 (some 61) ?_
            refine tU 42 (some 62) ?_
            refine tU 43 (some 63) ?_
            refine tL 44 (some 64) ?_
            refine wpAnyH_done (by kernel_rfl) ?_ _
            go_wp2_with fail
            go_meet
            exact ⟨false, rfl, ⟨fun h => (by cases h), fun h => absurd h HNB.out⟩, HWB.out.below (show Below wb.heap.size wb _ by go_grown)⟩
          · have hn1 : 0 ≤ nd := by omega
            have hn2 : nd ≤ (l0 : Int) - 1 := by omega
            clear hs hn
            obtain ⟨p, rfl⟩ : ∃ p : Nat, st = p := ⟨st.toNat, by omega⟩
            obtain ⟨r, rfl⟩ : ∃ r : Nat, nd = r := ⟨nd.toNat, by omega⟩
            have hpl : (p : Int) < l0 := by omega
            have hrl : (r : Int) < l0 := by omega
            have hNb := (HN.out.rows.below (HBB.out.mono hBw)).nodes
            obtain ⟨kd, b, off, hkd, rfl, hbB2, c0⟩ := node_kind hNb (show p < l0 by omega)
            obtain ⟨i1, w1, b1, o1, hs3, e1, -, d6, d7⟩ := node_sort hNb (show p < l0 by omega)
            obtain ⟨i2, w2, b2, o2, hs4, e2, -, f6, f7⟩ := node_sort hNb (show r < l0 by omega)
            simp only [Option.some.injEq, Addr.mk.injEq, and_true] at e1 e2
            obtain ⟨rfl, rfl⟩ := e1
            obtain ⟨rfl, rfl⟩ := e2
            have hbw : b < wb.heap.size := Nat.lt_of_lt_of_le hbB2 (Nat.le_trans hBw HBB.out.size)
            have HKD := Go.Lib.hid (show (M.ns.getD (p : Int).toNat default).kind = kd by simpa using hkd)
            have HS3 := Go.Lib.hid hs3
            have HS4 := Go.Lib.hid hs4
            clear hkd hs3 hs4 d6 hNb
            by_cases h36 : kd = 36
            · have q1 : (kd == 36) = true := by simpa using h36
              by_cases hi : i2 = 0
              · subst hi
                by_cases hw : w2 = w1
                · subst hw
                  have HYB := Go.Lib.hid (show wordN M.ns ⟨p, r⟩ from ⟨⟨hs1, by simp only; omega⟩, ⟨hn1, by simp only; omega⟩, HKD.out.trans h36, by simp only; rw [HS3.out, HS4.out]⟩)
                  refine wp_region_held_drew (S := (fun w' => w'.cell? ⟨w.heap.size, 0, none⟩ = some (.slice (some ⟨b, off, none⟩) l0 p0) ∧ w'.cell? ⟨g, 0, none⟩ = some (.int .i64 p) ∧ w'.cell? ⟨g, 1, none⟩ = some (.int .i64 r) ∧ w'.cell? ⟨b, off + p * 9, none⟩ = some (.int .i64 kd) ∧ w'.cell? ⟨b, off + p * 9 + 7, none⟩ = some (.int .i64 w2) ∧ w'.cell? ⟨b, off + r * 9 + 6, none⟩ = some (.int .i64 0) ∧ w'.cell? ⟨b, off + r * 9 + 7, none⟩ = some (.int .i64 w2))) (by kernel_rfl) ?_ (fun hHeld => ?_)
                  · exact keep7 (by go_grown) hltb hgl hbw z0 z1 z2 c0 d7 f6 f7
                  refine tL 0 (some 20) ?_
                  refine tL 1 (some 21) ?_
                  refine tL 2 (some 22) ?_
                  refine tL 3 (some 23) ?_
                  refine tL 4 (some 24) ?_
                  refine tL 5 (some 25) ?_
                  refine wpAnyH_ready (rs := [6]) (by kernel_rfl) (by simp) ?_
                  refine AllReadyH.cons (o := _) rfl (fun K hK => ?_) AllReadyH.nil
                  go_simp
                  first | (with_reducible refine (c_l1In_t _ _ _ hs1 hs2 _).mono ?_; rintro e w' ⟨rfl, rfl⟩) | (with_reducible refine (c_l1In_t _ _ _ hn1 hn2 _).mono ?_; rintro e w' ⟨rfl, rfl⟩)
                  (try go_wp2_with fail)
                  (try clear hHeld)
                  refine hK.out _ _ ?_ (fun hHeld => ?_)
                  · exact keep7 (by go_grown) hltb hgl hbw z0 z1 z2 c0 d7 f6 f7
                  clear hK K
                  (try simp only [Act.put, List.setIfInBounds_toArray, List.set_cons_zero, List.set_cons_succ])
                  refine tL 7 (some 27) ?_
                  refine tL 8 (some 28) ?_
                  refine tL 9 (some 29) ?_
                  refine tL 10 (some 30) ?_
                  refine tL 11 (some 31) ?_
                  refine tL 12 (some 32) ?_
                  refine tL 13 (some 33) ?_
                  refine wpAnyH_ready (rs := [14]) (by kernel_rfl) (by simp) ?_
                  refine AllReadyH.cons (o := _) rfl (fun K hK => ?_) AllReadyH.nil
                  go_simp
                  first | (with_reducible refine (c_l1In_t _ _ _ hs1 hs2 _).mono ?_; rintro e w' ⟨rfl, rfl⟩) | (with_reducible refine (c_l1In_t _ _ _ hn1 hn2 _).mono ?_; rintro e w' ⟨rfl, rfl⟩)
                  (try go_wp2_with fail)
                  (try clear hHeld)
                  refine hK.out _ _ ?_ (fun hHeld => ?_)
                  · exact keep7 (by go_grown) hltb hgl hbw z0 z1 z2 c0 d7 f6 f7
                  clear hK K
                  (try simp only [Act.put, List.setIfInBounds_toArray, List.set_cons_zero, List.set_cons_succ])
                  refine tL 15 (some 35) ?_
                  refine tL 16 (some 36) ?_
                  refine tL 17 (some 37) ?_
                  refine tL 18 (some 38) ?_
                  refine tL 19 (some 39) ?_
                  refine tL 20 (some 40) ?_
                  refine tL 21 (some 41) ?_
                  refine tL 22 (some 42) ?_
                  refine tL 23 (some 43) ?_
                  refine tL 24 (some 44) ?_
                  refine tL 25 (some 45) ?_
                  refine tL 26 (some 46) ?_
                  refine tL 27 (some 47) ?_
                  refine tL 28 (some 48) ?_
                  refine tL 29 (some 49) ?_
                  refine tL 30 (some 50) ?_
                  refine tL 31 (some 51) ?_
                  refine tL 32 (some 52) ?_
                  refine tL 33 (some 53) ?_
                  refine tL 34 (some 54) ?_
                  refine tL 35 (some 55) ?_
                  refine tL 36 (some 56) ?_
                  refine tL 37 (some 57) ?_
                  refine tL 38 (some 58) ?_
                  refine tL 39 (some 59) ?_
                  refine tL 40 (some 60) ?_
                  refine tL 41 (some 61) ?_
                  refine wpAnyH_ready (rs := [42]) (by kernel_rfl) (by simp) ?_
                  refine AllReadyH.cons (o := _) rfl (fun K hK => ?_) AllReadyH.nil
                  go_simp
                  refine (c_l2Word _ _).mono ?_; rintro e w' ⟨rfl, rfl⟩
                  (try go_wp2_with fail)
                  (try clear hHeld)
                  refine hK.out _ _ ?_ (fun hHeld => ?_)
                  · exact keep7 (by go_grown) hltb hgl hbw z0 z1 z2 c0 d7 f6 f7
                  clear hK K
                  (try simp only [Act.put, List.setIfInBounds_toArray, List.set_cons_zero, List.set_cons_succ])
                  refine tL 43 (some 63) ?_
                  refine tL 44 (some 64) ?_
                  refine wpAnyH_done (by kernel_rfl) ?_ _
                  go_wp2_with fail
                  go_meet
                  exact ⟨true, rfl, ⟨fun _ => HYB.out, fun _ => rfl⟩, HWB.out.below (show Below wb.heap.size wb _ by go_grown)⟩
                · have q2 : (w2 == w1) = false := by simpa using hw
                  have HNB := Go.Lib.hid (show ¬ wordN M.ns ⟨p, r⟩ from fun hb => by have h4 := hb.2.2.2; simp only at h4; rw [HS3.out, HS4.out] at h4; simp only [Prod.mk.injEq] at h4; exact hw h4.2)
                  refine wp_region_held_drew (S := (fun w' => w'.cell? ⟨w.heap.size, 0, none⟩ = some (.slice (some ⟨b, off, none⟩) l0 p0) ∧ w'.cell? ⟨g, 0, none⟩ = some (.int .i64 p) ∧ w'.cell? ⟨g, 1, none⟩ = some (.int .i64 r) ∧ w'.cell? ⟨b, off + p * 9, none⟩ = some (.int .i64 kd) ∧ w'.cell? ⟨b, off + p * 9 + 7, none⟩ = some (.int .i64 w1) ∧ w'.cell? ⟨b, off + r * 9 + 6, none⟩ = some (.int .i64 0) ∧ w'.cell? ⟨b, off + r * 9 + 7, none⟩ = some (.int .i64 w2))) (by kernel_rfl) ?_ (fun hHeld => ?_)
                  · exact keep7 (by go_grown) hltb hgl hbw z0 z1 z2 c0 d7 f6 f7
                  refine tL 0 (some 20) ?_
                  refine tL 1 (some 21) ?_
                  refine tL 2 (some 22) ?_
                  refine tL 3 (some 23) ?_
                  refine tL 4 (some 24) ?_
                  refine tL 5 (some 25) ?_
                  refine wpAnyH_ready (rs := [6]) (by kernel_rfl) (by simp) ?_
                  refine AllReadyH.cons (o := _) rfl (fun K hK => ?_) AllReadyH.nil
                  go_simp
                  first | (with_reducible refine (c_l1In_t _ _ _ hs1 hs2 _).mono ?_; rintro e w' ⟨rfl, rfl⟩) | (with_reducible refine (c_l1In_t _ _ _ hn1 hn2 _).mono ?_; rintro e w' ⟨rfl, rfl⟩)
                  (try go_wp2_with fail)
                  (try clear hHeld)
                  refine hK.out _ _ ?_ (fun hHeld => ?_)
                  · exact keep7 (by go_grown) hltb hgl hbw z0 z1 z2 c0 d7 f6 f7
                  clear hK K
                  (try simp only [Act.put, List.setIfInBounds_toArray, List.set_cons_zero, List.set_cons_succ])
                  refine tL 7 (some 27) ?_
                  refine tL 8 (some 28) ?_
                  refine tL 9 (some 29) ?_
                  refine tL 10 (some 30) ?_
                  refine tL 11 (some 31) ?_
                  refine tL 12 (some 32) ?_
                  refine tL 13 (some 33) ?_
                  refine wpAnyH_ready (rs := [14]) (by kernel_rfl) (by simp) ?_
                  refine AllReadyH.cons (o := _) rfl (fun K hK => ?_) AllReadyH.nil
                  go_simp
                  first | (with_reducible refine (c_l1In_t _ _ _ hs1 hs2 _).mono ?_; rintro e w' ⟨rfl, rfl⟩) | (with_reducible refine (c_l1In_t _ _ _ hn1 hn2 _).mono ?_; rintro e w' ⟨rfl, rfl⟩)
                  (try go_wp2_with fail)
                  (try clear hHeld)
                  refine hK.out _ _ ?_ (fun hHeld => ?_)
                  · exact keep7 (by go_grown) hltb hgl hbw z0 z1 z2 c0 d7 f6 f7
                  clear hK K
                  (try simp only [Act.put, List.setIfInBounds_toArray, List.set_cons_zero, List.set_cons_succ])
                  refine tL 15 (some 35) ?_
                  refine tL 16 (some 36) ?_
                  refine tL 17 (some 37) ?_
                  refine tL 18 (some 38) ?_
                  refine tL 19 (some 39) ?_
                  refine tL 20 (some 40) ?_
                  refine tL 21 (some 41) ?_
                  refine tL 22 (some 42) ?_
                  refine tL 23 (some 43) ?_
                  refine tL 24 (some 44) ?_
                  refine tL 25 (some 45) ?_
                  refine tL 26 (some 46) ?_
                  refine tL 27 (some 47) ?_
                  refine tL 28 (some 48) ?_
                  refine tL 29 (some 49) ?_
                  refine tL 30 (some 50) ?_
                  refine tL 31 (some 51) ?_
                  refine tL 32 (some 52) ?_
                  refine tL 33 (some 53) ?_
                  refine tL 34 (some 54) ?_
                  refine tL 35 (some 55) ?_
                  refine tL 36 (some 56) ?_
                  refine tL 37 (some 57) ?_
                  refine tL 38 (some 58) ?_
                  refine tL 39 (some 59) ?_
                  refine tL 40 (some 60) ?_
                  refine tL 41 (some 61) ?_
                  refine wpAnyH_ready (rs := [42]) (by kernel_rfl) (by simp) ?_
                  refine AllReadyH.cons (o := _) rfl (fun K hK => ?_) AllReadyH.nil
                  go_simp
                  refine (c_l2Word _ _).mono ?_; rintro e w' ⟨rfl, rfl⟩
                  (try go_wp2_with fail)
                  (try clear hHeld)
                  refine hK.out _ _ ?_ (fun hHeld => ?_)
                  · exact keep7 (by go_grown) hltb hgl hbw z0 z1 z2 c0 d7 f6 f7
                  clear hK K
                  (try simp only [Act.put, List.setIfInBounds_toArray, List.set_cons_zero, List.set_cons_succ])
                  refine tL 43 (some 63) ?_
                  refine tL 44 (some 64) ?_
                  refine wpAnyH_done (by kernel_rfl) ?_ _
                  go_wp2_with fail
                  go_meet
                  exact ⟨false, rfl, ⟨fun h => (by cases h), fun h => absurd h HNB.out⟩, HWB.out.below (show Below wb.heap.size wb _ by go_grown)⟩
              · have q2 : (i2 == 0) = false := by simpa using hi
                have HNB := Go.Lib.hid (show ¬ wordN M.ns ⟨p, r⟩ from fun hb => by have h4 := hb.2.2.2; simp only at h4; rw [HS3.out, HS4.out] at h4; simp only [Prod.mk.injEq] at h4; exact hi h4.1)
                refine wp_region_held_drew (S := (fun w' => w'.cell? ⟨w.heap.size, 0, none⟩ = some (.slice (some ⟨b, off, none⟩) l0 p0) ∧ w'.cell? ⟨g, 0, none⟩ = some (.int .i64 p) ∧ w'.cell? ⟨g, 1, none⟩ = some (.int .i64 r) ∧ w'.cell? ⟨b, off + p * 9, none⟩ = some (.int .i64 kd) ∧ w'.cell? ⟨b, off + p * 9 + 7, none⟩ = some (.int .i64 w1) ∧ w'.cell? ⟨b, off + r * 9 + 6, none⟩ = some (.int .i64 i2) ∧ w'.cell? ⟨b, off + r * 9 + 7, none⟩ = some (.int .i64 w2))) (by kernel_rfl) ?_ (fun hHeld => ?_)
                · exact keep7 (by go_grown) hltb hgl hbw z0 z1 z2 c0 d7 f6 f7
                refine tL 0 (some 20) ?_
                refine tL 1 (some 21) ?_
                refine tL 2 (some 22) ?_
                refine tL 3 (some 23) ?_
                refine tL 4 (some 24) ?_
                refine tL 5 (some 25) ?_
                refine wpAnyH_ready (rs := [6]) (by kernel_rfl) (by simp) ?_
                refine AllReadyH.cons (o := _) rfl (fun K hK => ?_) AllReadyH.nil
                go_simp
                first | (with_reducible refine (c_l1In_t _ _ _ hs1 hs2 _).mono ?_; rintro e w' ⟨rfl, rfl⟩) | (with_reducible refine (c_l1In_t _ _ _ hn1 hn2 _).mono ?_; rintro e w' ⟨rfl, rfl⟩)
                (try go_wp2_with fail)
                (try clear hHeld)
                refine hK.out _ _ ?_ (fun hHeld => ?_)
                · exact keep7 (by go_grown) hltb hgl hbw z0 z1 z2 c0 d7 f6 f7
                clear hK K
                (try simp only [Act.put, List.setIfInBounds_toArray, List.set_cons_zero, List.set_cons_succ])
                refine tL 7 (some 27) ?_
                refine tL 8 (some 28) ?_
                refine tL 9 (some 29) ?_
                refine tL 10 (some 30) ?_
                refine tL 11 (some 31) ?_
                refine tL 12 (some 32) ?_
                refine tL 13 (some 33) ?_
                refine wpAnyH_ready (rs := [14]) (by kernel_rfl) (by simp) ?_
                refine AllReadyH.cons (o := _) rfl (fun K hK => ?_) AllReadyH.nil
                go_simp
                first | (with_reducible refine (c_l1In_t _ _ _ hs1 hs2 _).mono ?_; rintro e w' ⟨rfl, rfl⟩) | (with_reducible refine (c_l1In_t _ _ _ hn1 hn2 _).mono ?_; rintro e w' ⟨rfl, rfl⟩)
                (try go_wp2_with fail)
                (try clear hHeld)
                refine hK.out _ _ ?_ (fun hHeld => ?_)
                · exact keep7 (by go_grown) hltb hgl hbw z0 z1 z2 c0 d7 f6 f7
                clear hK K
                (try simp only [Act.put, List.setIfInBounds_toArray, List.set_cons_zero, List.set_cons_succ])
                refine tL 15 (some 35) ?_
                refine tL 16 (some 36) ?_
                refine tL 17 (some 37) ?_
                refine tL 18 (some 38) ?_
                refine tL 19 (some 39) ?_
                refine tL 20 (some 40) ?_
                refine tL 21 (some 41) ?_
                refine tL 22 (some 42) ?_
                refine tL 23 (some 43) ?_
                refine tL 24 (some 44) ?_
                refine tL 25 (some 45) ?_
                refine tL 26 (some 46) ?_
                refine tL 27 (some 47) ?_
                refine tL 28 (some 48) ?_
                refine tL 29 (some 49) ?_
                refine tL 30 (some 50) ?_
                refine tL 31 (some 51) ?_
                refine tL 32 (some 52) ?_
                refine tL 33 (some 53) ?_
                refine tL 34 (some 54) ?_
                refine tL 35 (some 55) ?_
                refine tL 36 (some 56) ?_
                refine tL 37 (some 57) ?_
                refine tL 38 (some 58) ?_
                refine tL 39 (some 59) ?_
                refine tL 40 (some 60) ?_
                refine tL 41 (some 61) ?_
                refine wpAnyH_ready (rs := [42]) (by kernel_rfl) (by simp) ?_
                refine AllReadyH.cons (o := _) rfl (fun K hK => ?_) AllReadyH.nil
                go_simp
                refine (c_l2Word _ _).mono ?_; rintro e w' ⟨rfl, rfl⟩
                (try go_wp2_with fail)
                (try clear hHeld)
                refine hK.out _ _ ?_ (fun hHeld => ?_)
                · exact keep7 (by go_grown) hltb hgl hbw z0 z1 z2 c0 d7 f6 f7
                clear hK K
                (try simp only [Act.put, List.setIfInBounds_toArray, List.set_cons_zero, List.set_cons_succ])
                refine tL 43 (some 63) ?_
                refine tL 44 (some 64) ?_
                refine wpAnyH_done (by kernel_rfl) ?_ _
                go_wp2_with fail
                go_meet
                exact ⟨false, rfl, ⟨fun h => (by cases h), fun h => absurd h HNB.out⟩, HWB.out.below (show Below wb.heap.size wb _ by go_grown)⟩
            · have q1 : (kd == 36) = false := by simpa using h36
              have HNB := Go.Lib.hid (show ¬ wordN M.ns ⟨p, r⟩ from fun hb => h36 (HKD.out.symm.trans hb.2.2.1))
              refine wp_region_held_drew (S := (fun w' => w'.cell? ⟨w.heap.size, 0, none⟩ = some (.slice (some ⟨b, off, none⟩) l0 p0) ∧ w'.cell? ⟨g, 0, none⟩ = some (.int .i64 p) ∧ w'.cell? ⟨g, 1, none⟩ = some (.int .i64 r) ∧ w'.cell? ⟨b, off + p * 9, none⟩ = some (.int .i64 kd) ∧ w'.cell? ⟨b, off + p * 9 + 7, none⟩ = some (.int .i64 w1) ∧ w'.cell? ⟨b, off + r * 9 + 6, none⟩ = some (.int .i64 i2) ∧ w'.cell? ⟨b, off + r * 9 + 7, none⟩ = some (.int .i64 w2))) (by kernel_rfl) ?_ (fun hHeld => ?_)
              · exact keep7 (by go_grown) hltb hgl hbw z0 z1 z2 c0 d7 f6 f7
              refine tL 0 (some 20) ?_
              refine tL 1 (some 21) ?_
              refine tL 2 (some 22) ?_
              refine tL 3 (some 23) ?_
              refine tL 4 (some 24) ?_
              refine tL 5 (some 25) ?_
              refine wpAnyH_ready (rs := [6]) (by kernel_rfl) (by simp) ?_
              refine AllReadyH.cons (o := _) rfl (fun K hK => ?_) AllReadyH.nil
              go_simp
              first | (with_reducible refine (c_l1In_t _ _ _ hs1 hs2 _).mono ?_; rintro e w' ⟨rfl, rfl⟩) | (with_reducible refine (c_l1In_t _ _ _ hn1 hn2 _).mono ?_; rintro e w' ⟨rfl, rfl⟩)
              (try go_wp2_with fail)
              (try clear hHeld)
              refine hK.out _ _ ?_ (fun hHeld => ?_)
              · exact keep7 (by go_grown) hltb hgl hbw z0 z1 z2 c0 d7 f6 f7
              clear hK K
              (try simp only [Act.put, List.setIfInBounds_toArray, List.set_cons_zero, List.set_cons_succ])
              refine tL 7 (some 27) ?_
              refine tL 8 (some 28) ?_
              refine tL 9 (some 29) ?_
              refine tL 10 (some 30) ?_
              refine tL 11 (some 31) ?_
              refine tL 12 (some 32) ?_
              refine tL 13 (some 33) ?_
              refine wpAnyH_ready (rs := [14]) (by kernel_rfl) (by simp) ?_
              refine AllReadyH.cons (o := _) rfl (fun K hK => ?_) AllReadyH.nil
              go_simp
              first | (with_reducible refine (c_l1In_t _ _ _ hs1 hs2 _).mono ?_; rintro e w' ⟨rfl, rfl⟩) | (with_reducible refine (c_l1In_t _ _ _ hn1 hn2 _).mono ?_; rintro e w' ⟨rfl, rfl⟩)
              (try go_wp2_with fail)
              (try clear hHeld)
              refine hK.out _ _ ?_ (fun hHeld => ?_)
              · exact keep7 (by go_grown) hltb hgl hbw z0 z1 z2 c0 d7 f6 f7
              clear hK K
              (try simp only [Act.put, List.setIfInBounds_toArray, List.set_cons_zero, List.set_cons_succ])
              refine tL 15 (some 35) ?_
              refine tL 16 (some 36) ?_
              refine tL 17 (some 37) ?_
              refine tL 18 (some 38) ?_
              refine tL 19 (some 39) ?_
              refine tL 20 (some 40) ?_
              refine tL 21 (some 41) ?_
              refine tL 22 (some 42) ?_
              refine tL 23 (some 43) ?_
              refine tL 24 (some 44) ?_
              refine tL 25 (some 45) ?_
              refine tL 26 (some 46) ?_
              refine tU 27 (some 47) ?_
              refine tU 28 (some 48) ?_
              refine tU 29 (some 49) ?_
              refine tU 30 (some 50) ?_
              refine tU 31 (some 51) ?_
              refine tU 32 (some 52) ?_
              refine tU 33 (some 53) ?_
              refine tU 34 (some 54) ?_
              refine tU 35 (some 55) ?_
              refine tU 36 (some 56) ?_
              refine tU 37 (some 57) ?_
              refine tU 38 (some 58) ?_
              refine tU 39 (some 59) ?_
              refine tU 40 (some 60) ?_
              refine tU 41 (some 61) ?_
              refine tU 42 (some 62) ?_
              refine tU 43 (some 63) ?_
              refine tL 44 (some 64) ?_
              refine wpAnyH_done (by kernel_rfl) ?_ _
              go_wp2_with fail
              go_meet
              exact ⟨false, rfl, ⟨fun h => (by cases h), fun h => absurd h HNB.out⟩, HWB.out.below (show Below wb.heap.size wb _ by go_grown)⟩
      case rest =>
        obtain ⟨rr, rfl, hrr, hwc⟩ := hcut
        have HRR := Go.Lib.hid hrr
        have HWC := Go.Lib.hid hwc
        clear hrr hwc z0 z1 z2 HWB HBB hltb hgl
        have hki1 : k + 1 ≤ l1 := by omega
        cases rr
        · go_upto_region 8 with fail
          have hwd := HWC.out
          obtain ⟨hltc, x0, x1, x2, x3, x4, hBc⟩ := hwd.box
          have HBC := Go.Lib.hid hBc
          have HWD := Go.Lib.hid hwd
          have z1 := hwd.z1
          have z2 := hwd.z2
          have v1 := hwd.v1
          have v2 := hwd.v2
          have hglt := hwd.lt
          clear hwd hBc
          go_wp2_with fail
          refine (c_l2Bound (B := B) (s0 := ⟨a0, l0, p0⟩) (s1 := ⟨some ⟨bb, bo, none⟩, l1, p1⟩) (s2 := ⟨a2, l2, p2⟩) (s3 := s3) (s4 := s4) ⟨st, nd⟩ wc (Nat.le_trans hBw HBC.out.size) (HMA.out.below (HBC.out.mono hBw))).mono ?_
          rintro e w2 ⟨⟨r1, rfl, hr1⟩, hB2⟩
          have HR1 := Go.Lib.hid hr1
          have HWE := Go.Lib.hid (HWD.out.below hB2)
          clear hr1 hB2 x0 x1 x2 x3 x4 z1 z2 v1 v2
          have hwe := HWE.out
          obtain ⟨hltc, x0, x1, x2, x3, x4, hBc⟩ := hwe.box
          have HBE := Go.Lib.hid hBc
          have z2 := hwe.z2
          clear hwe hBc
          cases r1
          · have HNI := Go.Lib.hid (show ¬ initN M.ns (M.is.getD k default) from by rw [← HBD.out]; exact by rintro ⟨h | h, _⟩; exact absurd (HRR.out.2 h) (by simp); exact absurd (HR1.out.2 h) (by simp))
            go_wp2_with fail
            go_ret
            exact ⟨BoolIs.no (fun hb => HNI.out (hb.1 k (by omega))), HBE.out⟩
          · obtain ⟨hn1, hn2⟩ := (HR1.out.1 (by trivial)).2.1
            simp only at hn1 hn2
            obtain ⟨q, rfl⟩ : ∃ q : Nat, nd = q := ⟨nd.toNat, by omega⟩
            go_wp2_with fail
            refine (c_l2Fixed (B := B) (s0 := ⟨a0, l0, p0⟩) (s1 := ⟨some ⟨bb, bo, none⟩, l1, p1⟩) (s2 := ⟨a2, l2, p2⟩) (s3 := s3) (s4 := s4) q w2 (Nat.le_trans hBw HBE.out.size) (HMA.out.below (HBE.out.mono hBw)) HGD.out h60 (show q < l0 by omega)).mono ?_
            rintro e w3 ⟨⟨r2, rfl, hr2⟩, hB3⟩
            have HR2 := Go.Lib.hid hr2
            have HWF := Go.Lib.hid (HWE.out.below hB3)
            clear hr2 hB3 x0 x1 x2 x3 x4 z2
            cases r2
            · have HNI := Go.Lib.hid (show ¬ initN M.ns (M.is.getD k default) from by rw [← HBD.out]; rintro ⟨_, h⟩; exact absurd (HR2.out.2 (by simpa using h)) (by simp))
              go_wp2_with fail
              go_ret
              exact ⟨BoolIs.no (fun hb => HNI.out (hb.1 k (by omega))), HWF.out.box.2.2.2.2.2.2⟩
            · have HYI := Go.Lib.hid (show ∀ t, t < k + 1 → initN M.ns (M.is.getD t default) from fun t ht => by
                rcases Nat.lt_or_ge t k with h | h
                · exact HNO.out t h
                · obtain rfl : t = k := by omega
                  rw [← HBD.out]; exact ⟨.inr (HR1.out.1 (by trivial)), by have := HR2.out.1 (by trivial); simpa using this⟩)
              go_wp2_with fail
              go_roundw
              case rel => exact ⟨k + 1, by omega, by go_num, HYI.out, HWF.out.box⟩
              case measure => simp [intOf] <;> omega
        · have z1 := HWC.out.z1
          have v2 := HWC.out.v2
          have fz := HWC.out.fz
          go_upto_region 8 with fail
          refine code_gen (R := fun wd => WB ⟨a0, l0, p0⟩ ⟨some ⟨bb, bo, none⟩, l1, p1⟩ ⟨a2, l2, p2⟩ s3 s4 w g st nd st wd) (HWC.out.put hlt st) ?_
          intro wc hwd
          obtain ⟨hltc, x0, x1, x2, x3, x4, hBc⟩ := hwd.box
          have HBC := Go.Lib.hid hBc
          have HWD := Go.Lib.hid hwd
          have z1 := hwd.z1
          have z2 := hwd.z2
          have v1 := hwd.v1
          have v2 := hwd.v2
          have hglt := hwd.lt
          clear hwd hBc
          go_wp2_with fail
          refine (c_l2Bound (B := B) (s0 := ⟨a0, l0, p0⟩) (s1 := ⟨some ⟨bb, bo, none⟩, l1, p1⟩) (s2 := ⟨a2, l2, p2⟩) (s3 := s3) (s4 := s4) ⟨st, st⟩ wc (Nat.le_trans hBw HBC.out.size) (HMA.out.below (HBC.out.mono hBw))).mono ?_
          rintro e w2 ⟨⟨r1, rfl, hr1⟩, hB2⟩
          have HR1 := Go.Lib.hid hr1
          have HWE := Go.Lib.hid (HWD.out.below hB2)
          clear hr1 hB2 x0 x1 x2 x3 x4 z1 z2 v1 v2
          have hwe := HWE.out
          obtain ⟨hltc, x0, x1, x2, x3, x4, hBc⟩ := hwe.box
          have HBE := Go.Lib.hid hBc
          have z2 := hwe.z2
          clear hwe hBc
          cases r1
          · have HNI := Go.Lib.hid (show ¬ initN M.ns (M.is.getD k default) from by rw [← HBD.out]; exact fun _ => absurd (HR1.out.2 (wordN_bound (HRR.out.1 (by trivial)))) (by simp))
            go_wp2_with fail
            go_ret
            exact ⟨BoolIs.no (fun hb => HNI.out (hb.1 k (by omega))), HBE.out⟩
          · obtain ⟨hn1, hn2⟩ := (HRR.out.1 (by trivial)).2.1
            simp only at hn1 hn2
            obtain ⟨q, rfl⟩ : ∃ q : Nat, nd = q := ⟨nd.toNat, by omega⟩
            go_wp2_with fail
            refine (c_l2Fixed (B := B) (s0 := ⟨a0, l0, p0⟩) (s1 := ⟨some ⟨bb, bo, none⟩, l1, p1⟩) (s2 := ⟨a2, l2, p2⟩) (s3 := s3) (s4 := s4) q w2 (Nat.le_trans hBw HBE.out.size) (HMA.out.below (HBE.out.mono hBw)) HGD.out h60 (show q < l0 by omega)).mono ?_
            rintro e w3 ⟨⟨r2, rfl, hr2⟩, hB3⟩
            have HR2 := Go.Lib.hid hr2
            have HWF := Go.Lib.hid (HWE.out.below hB3)
            clear hr2 hB3 x0 x1 x2 x3 x4 z2
            cases r2
            · have HNI := Go.Lib.hid (show ¬ initN M.ns (M.is.getD k default) from by rw [← HBD.out]; rintro ⟨_, h⟩; exact absurd (HR2.out.2 (by simpa using h)) (by simp))
              go_wp2_with fail
              go_ret
              exact ⟨BoolIs.no (fun hb => HNI.out (hb.1 k (by omega))), HWF.out.box.2.2.2.2.2.2⟩
            · have HYI := Go.Lib.hid (show ∀ t, t < k + 1 → initN M.ns (M.is.getD t default) from fun t ht => by
                rcases Nat.lt_or_ge t k with h | h
                · exact HNO.out t h
                · obtain rfl : t = k := by omega
                  rw [← HBD.out]; exact ⟨.inl (HRR.out.1 (by trivial)), by have := HR2.out.1 (by trivial); simpa using this⟩)
              go_wp2_with fail
              go_roundw
              case rel => exact ⟨k + 1, by omega, by go_num, HYI.out, HWF.out.box⟩
              case measure => simp [intOf] <;> omega
    · have hki : ¬ (k : Int) < l1 := by omega
      have HIN := Go.Lib.hid (show ∀ t, t < M.is.length → initN M.ns (M.is.getD t default) from fun t ht => HNO.out t (by omega))
      clear HNO b0
      go_wp2_with fail
      go_loopw [6] (fun i wr => ∃ t : Nat, t ≤ l2 ∧ i = .int .i64 t ∧ (∀ y, y < t → boundN M.ns (M.xs.getD y default)) ∧ Boxed ⟨a0, l0, p0⟩ ⟨a1, l1, p1⟩ ⟨a2, l2, p2⟩ s3 s4 w wr) (fun i _ => l2 - (intOf i).toNat)
      case atStart => exact ⟨0, by omega, rfl, fun t h => by omega, HXR.out⟩
      case round =>
        clear b1 b2 hlt HB
        obtain ⟨t, ht, rfl, hnt, HX0⟩ := hrel
        have HNT := Go.Lib.hid hnt
        have HXT := Go.Lib.hid HX0
        obtain ⟨hlt, b0, b1, b2, b3, b4, hBt⟩ := HX0
        have HBT := Go.Lib.hid hBt
        clear hnt hBt
        by_cases htl : t < l2
        · have hti : (t : Int) < l2 := by omega
          obtain ⟨bd, bb, bo, hbd, -, rfl, hbB, e0, e1⟩ := bind_at (HXS.out.below (HBT.out.mono hBw)) htl
          have HBD := Go.Lib.hid hbd
          clear hbd
          obtain ⟨st, nd⟩ := bd
          simp only at e0 e1
          have hbq : bb < wr.heap.size := Nat.lt_of_lt_of_le hbB (Nat.le_trans hBw HBT.out.size)
          have hbq2 := HBT.out
          go_wp2_with fail
          refine wp_region_held_drew (S := (fun w' => w'.cell? ⟨w.heap.size, 0, none⟩ = some (.slice a0 l0 p0) ∧ w'.cell? ⟨w.heap.size, 1, none⟩ = some (.slice a1 l1 p1) ∧ w'.cell? ⟨w.heap.size, 2, none⟩ = some (.slice (some ⟨bb, bo, none⟩) l2 p2) ∧ w'.cell? ⟨w.heap.size, 3, none⟩ = some (.slice s3.a s3.len s3.cap) ∧ w'.cell? ⟨w.heap.size, 4, none⟩ = some (.slice s4.a s4.len s4.cap) ∧ w'.cell? ⟨bb, bo + t * 2, none⟩ = some (.int .i64 st) ∧ w'.cell? ⟨bb, bo + t * 2 + 1, none⟩ = some (.int .i64 nd))) (by kernel_rfl) ?_ (fun hHeld => ?_)
          · exact ⟨keepc (by go_grown) hlt b0, keepc (by go_grown) hlt b1, keepc (by go_grown) hlt b2, keepc (by go_grown) hlt b3, keepc (by go_grown) hlt b4, keepc (by go_grown) hbq e0, keepc (by go_grown) hbq e1⟩
          refine tL 0 (some 86) ?_
          refine tL 1 (some 87) ?_
          refine tL 2 (some 88) ?_
          refine tL 3 (some 89) ?_
          refine tL 4 (some 90) ?_
          refine tL 5 (some 91) ?_
          refine wpAnyH_ready (rs := [6]) (by kernel_rfl) (by simp) ?_
          refine AllReadyH.cons (o := _) rfl (fun K hK => ?_) AllReadyH.nil
          go_simp
          refine (c_l2Bound (B := B) (s0 := ⟨a0, l0, p0⟩) (s1 := ⟨a1, l1, p1⟩) (s2 := ⟨some ⟨bb, bo, none⟩, l2, p2⟩) (s3 := s3) (s4 := s4) ⟨st, nd⟩ _ (Nat.le_trans hBw (Nat.le_trans hbq2.size (by go_size))) ((HMA.out.below (HBT.out.mono hBw)).below (Below.mono (show Below wr.heap.size wr _ by go_grown) (Nat.le_trans hBw HBT.out.size)))).mono ?_; rintro e w2 ⟨⟨r1, rfl, hr1⟩, hB2⟩; have HR1 := Go.Lib.hid hr1; clear hr1; have hb2 : Below wr.heap.size wr w2 := bstep (by go_grown) (Nat.le_refl _) hB2; have ht2 := hb2.size; clear hB2
          (try go_wp2_with fail)
          (try clear hHeld)
          refine hK.out _ _ ?_ (fun hHeld => ?_)
          · exact ⟨keepc (by go_grown) hlt b0, keepc (by go_grown) hlt b1, keepc (by go_grown) hlt b2, keepc (by go_grown) hlt b3, keepc (by go_grown) hlt b4, keepc (by go_grown) hbq e0, keepc (by go_grown) hbq e1⟩
          clear hK K
          (try simp only [Act.put, List.setIfInBounds_toArray, List.set_cons_zero, List.set_cons_succ])
          refine tL 7 (some 93) ?_
          refine wpAnyH_done (by kernel_rfl) ?_ _
          clear hHeld b0 b1 b2 b3 b4 e0 e1
          cases r1
          · have HNI := Go.Lib.hid (show ¬ boundN M.ns (M.xs.getD t default) from by rw [← HBD.out]; exact fun h => absurd (HR1.out.2 h) (by simp))
            go_wp2_with fail
            go_ret
            exact ⟨BoolIs.no (fun hb => HNI.out (hb.2 t (by omega))), HBT.out.trans (Below.mono (show Below wr.heap.size wr _ by go_grown) HBT.out.size)⟩
          · have HYI := Go.Lib.hid (show ∀ y, y < t + 1 → boundN M.ns (M.xs.getD y default) from fun y hy => by
              rcases Nat.lt_or_ge y t with h | h
              · exact HNT.out y h
              · obtain rfl : y = t := by omega
                rw [← HBD.out]; exact HR1.out.1 (by trivial))
            go_wp2_with fail
            go_roundw
            case rel => exact ⟨t + 1, by omega, by go_num, HYI.out, HXT.out.below (show Below wr.heap.size wr _ by go_grown)⟩
            case measure => simp [intOf] <;> omega
        · have hti : ¬ (t : Int) < l2 := by omega
          clear b0 b1 b3 b4
          go_wp2_with fail
          go_ret
          exact ⟨BoolIs.yes ⟨HIN.out, fun y hy => HNT.out y (by omega)⟩, HBT.out⟩
end Go.Proofs.YtbkcecilbpngcaaGreat
