/-
  The law of NodeSort, walked.
-/
import Derived.Test.YtnbmhnbcmfcchaaRows
import Derived.Test.YtnbmhnbcmfcchaaMath
import Derived.Test.YtnbmhnbcmfcchaaBase
import Derived.Test.YtnbmhnbcmfcchaaSortS
import Derived.Test.YtnbmhnbcmfcchaaSortI
import Derived.Test.YtnbmhnbcmfcchaaKindN
import Derived.Test.YtnbmhnbcmfcchaaNodeD
import Derived.Test.YtnbmhnbcmfcchaaNodeM
import Derived.Test.YtnbmhnbcmfcchaaNames
import Derived.Test.YtnbmhnbcmfcchaaFieldsS
import Derived.Test.YtnbmhnbcmfcchaaNodeL
import Derived.Test.YtnbmhnbcmfcchaaResP
import Derived.Test.YtnbmhnbcmfcchaaNSortS
import Derived.Test.YtnbmhnbcmfcchaaNSortI
import Derived.Test.YtnbmhnbcmfcchaaPartsI
import Derived.Test.YtnbmhnbcmfcchaaPSortI
import Derived.Test.YtnbmhnbcmfcchaaPSortJ
import Derived.Test.YtnbmhnbcmfcchaaKSortP
import Derived.Test.YtnbmhnbcmfcchaaKSortA
import Derived.Test.YtnbmhnbcmfcchaaNSortJ
import Derived.Test.YtnbmhnbcmfcchaaNodeE
import Derived.Test.YtnbmhnbcmfcchaaNodeC
import Derived.Test.YtnbmhnbcmfcchaaKSortB
import Derived.Test.YtnbmhnbcmfcchaaKSortC
import Derived.Test.YtnbmhnbcmfcchaaKSortD
import Derived.WalkKit
import Derived.ProofKit
import Derived.OpenShut
import Derived.WalkSpells
import Derived.WalkLawsBesides
import Derived.Outline
import Derived.BigQuiet
import Derived.Handy
import Derived.LoopTactic
import Derived.Deep.Light
import Derived.Deep.RegionWith
import Derived.Deep.RegionHeld3
import Derived.Lib.Hide
import Derived.Deep.DeepCutAuto
namespace Go.Proofs.Ytnbmhnbcmfcchaa
open Go.ChangeShapes Go.WideShapes Go.ChangeAt Go.RowKit
set_option linter.unusedVariables false

theorem keep9 {g : Nat} {v0 v1 v2 v3 v4 v5 v6 v7 v8 : Value} {w w' : World} (hb : Below w.heap.size w w') (hl : g < w.heap.size) (y0 : w.cell? ⟨g, 0, none⟩ = some v0) (y1 : w.cell? ⟨g, 1, none⟩ = some v1) (y2 : w.cell? ⟨g, 2, none⟩ = some v2) (y3 : w.cell? ⟨g, 3, none⟩ = some v3) (y4 : w.cell? ⟨g, 4, none⟩ = some v4) (y5 : w.cell? ⟨g, 5, none⟩ = some v5) (y6 : w.cell? ⟨g, 6, none⟩ = some v6) (y7 : w.cell? ⟨g, 7, none⟩ = some v7) (y8 : w.cell? ⟨g, 8, none⟩ = some v8) :
    w'.cell? ⟨g, 0, none⟩ = some v0 ∧ w'.cell? ⟨g, 1, none⟩ = some v1 ∧ w'.cell? ⟨g, 2, none⟩ = some v2 ∧ w'.cell? ⟨g, 3, none⟩ = some v3 ∧ w'.cell? ⟨g, 4, none⟩ = some v4 ∧ w'.cell? ⟨g, 5, none⟩ = some v5 ∧ w'.cell? ⟨g, 6, none⟩ = some v6 ∧ w'.cell? ⟨g, 7, none⟩ = some v7 ∧ w'.cell? ⟨g, 8, none⟩ = some v8 :=
  ⟨keepc hb hl y0, keepc hb hl y1, keepc hb hl y2, keepc hb hl y3, keepc hb hl y4, keepc hb hl y5, keepc hb hl y6, keepc hb hl y7, keepc hb hl y8⟩
/-- A block of two noughts. -/
structure ZB (g : Nat) (w : World) : Prop where
  lt : g < w.heap.size
  c0 : w.cell? ⟨g, 0, none⟩ = some (.int .i64 0)
  c1 : w.cell? ⟨g, 1, none⟩ = some (.int .i64 0)
  f0 : w.frozen? ⟨g, 0, none⟩ = false
  f1 : w.frozen? ⟨g, 1, none⟩ = false
theorem ZB.new (w : World) : ZB w.heap.size (w.alloc (.cells #[.int .i64 0, .int .i64 0] 25)) :=
  ⟨alloc_ltS _ _, World.cell?_alloc_new _ _ _ _, World.cell?_alloc_new _ _ _ _, frozen_of_new _ _ _ _, frozen_of_new _ _ _ _⟩
theorem ZB.newD (w : World) : ZB w.heap.size (w.alloc (.cells #[.int .i64 0, .int .i64 0] 25)).drew := ⟨(ZB.new w).lt, (ZB.new w).c0, (ZB.new w).c1, (ZB.new w).f0, (ZB.new w).f1⟩
theorem ZB.below {g : Nat} {w w' : World} (h : ZB g w) (hB : Below w.heap.size w w') : ZB g w' :=
  ⟨Nat.lt_of_lt_of_le h.lt hB.size, (hB.cell (p := ⟨g, 0, none⟩) h.lt).trans h.c0, (hB.cell (p := ⟨g, 1, none⟩) h.lt).trans h.c1, (hB.frozen (p := ⟨g, 0, none⟩) h.lt).trans h.f0, (hB.frozen (p := ⟨g, 1, none⟩) h.lt).trans h.f1⟩
theorem NodesAt.below' {w w' : World} {a : Option Addr} {len cap : Nat} {ns : List ND} (h : NodesAt w.heap.size w a len cap ns) (hb : Below w.heap.size w w') : NodesAt w'.heap.size w' a len cap ns := by
  obtain ⟨h1, h2, h3, h4, h5, h6⟩ := h.below hb
  refine ⟨h1, h2, h3, h4, h5, ?_⟩
  rcases h6 with h6 | ⟨b, off, e, hlt, hc⟩
  · exact .inl h6
  · exact .inr ⟨b, off, e, Nat.lt_of_lt_of_le hlt hb.size, hc⟩
theorem NodesAt.below2 {w w1 w2 : World} {a : Option Addr} {len cap : Nat} {ns : List ND} (h : NodesAt w.heap.size w a len cap ns) (hb : Below w.heap.size w w1) (hb2 : Below w1.heap.size w1 w2) : NodesAt w2.heap.size w2 a len cap ns := (h.below' hb).below' hb2
def CutL (ns : List ND) (x : ND) (w : World) (s6 s7 : Value) (wx : World) : Prop :=
  ∃ g : Nat, s6 = .pointer (some ⟨g, 0, none⟩) ∧ s7 = .bool (decide (nOk ns x)) ∧ (w.heap.size ≤ g ∧ g < wx.heap.size) ∧ wx.cell? ⟨g, 0, none⟩ = some (.int .i64 (nSort ns x).1) ∧ wx.cell? ⟨g, 1, none⟩ = some (.int .i64 (nSort ns x).2) ∧ Below w.heap.size w wx

set_option maxRecDepth 100000 in
set_option maxHeartbeats 8000000 in
theorem w_FnExactNodeSort {a : Option Addr} {len cap : Nat} {ns : List ND} (x : ND) (hx : x.name.size ≤ maxLen) (w : World) (h : NodesAt w.heap.size w a len cap ns) :
    Calls Try.prog 6 #[.slice a len cap, .agg x.cells.toArray] w fun e w' => e = .returned (.bool true) ∧ Below w.heap.size w w' := by
  have HN := Go.Lib.hid h
  clear h
  obtain ⟨k, pa, pb, pc, n, m, si, sw, nm⟩ := x
  simp only [ND.cells] at *
  go_enter Try.func6, Try.ntmps6
  go_wp2_with fail
  refine (c_szNodeS 1048576 (by omega) (by omega) _ (Nat.le_refl _) (HN.out.below' (show Below w.heap.size w _ by go_grown))).mono ?_
  rintro e w1 ⟨⟨r, rfl, hr1, hr2, hr3⟩, hB1⟩
  have HB1 := Go.Lib.hid hB1
  have hbw1 : Below w.heap.size w w1 := bstep (show Below w.heap.size w _ by go_grown) (Nat.le_refl _) hB1
  obtain ⟨hc1, hf1⟩ := bcell hB1
  clear hB1
  by_cases hr : r < 0
  · go_wp2_with fail
    go_ret
    exact ⟨rfl, hbw1⟩
  · have hlen : len ≤ 1048576 := by have := hr3 (by omega); omega
    clear hr3
    go_wp2_with fail
    refine (c_szNode ⟨k, pa, pb, pc, n, m, si, sw, nm⟩ hx r (by omega) (by omega) _).mono ?_
    rintro e w2 ⟨⟨r2, rfl, hr4, hr5⟩, hB2⟩
    have HB2 := Go.Lib.hid (bstep HB1.out (Nat.le_refl _) hB2)
    have hbw2 : Below w.heap.size w w2 := bstep hbw1 (Nat.le_refl _) hB2
    obtain ⟨hc2, hf2⟩ := bcell HB2.out
    clear hB2 hc1 hf1
    by_cases hs : r2 < 0
    · go_wp2_with fail
      go_ret
      exact ⟨rfl, hbw2⟩
    · have hl2 : w.heap.size < w2.heap.size := by have := HB2.out.size; simp at this; omega
      have y0 : w2.cell? ⟨w.heap.size, 0, none⟩ = some (.int .i64 k) := (hc2 w.heap.size 0 (by simp)).trans (by simp)
      have y1 : w2.cell? ⟨w.heap.size, 1, none⟩ = some (.int .i64 pa) := (hc2 w.heap.size 1 (by simp)).trans (by simp)
      have y2 : w2.cell? ⟨w.heap.size, 2, none⟩ = some (.int .i64 pb) := (hc2 w.heap.size 2 (by simp)).trans (by simp)
      have y3 : w2.cell? ⟨w.heap.size, 3, none⟩ = some (.int .i64 pc) := (hc2 w.heap.size 3 (by simp)).trans (by simp)
      have y4 : w2.cell? ⟨w.heap.size, 4, none⟩ = some (.int .i64 n) := (hc2 w.heap.size 4 (by simp)).trans (by simp)
      have y5 : w2.cell? ⟨w.heap.size, 5, none⟩ = some (.int .i64 m) := (hc2 w.heap.size 5 (by simp)).trans (by simp)
      have y6 : w2.cell? ⟨w.heap.size, 6, none⟩ = some (.int .i64 si) := (hc2 w.heap.size 6 (by simp)).trans (by simp)
      have y7 : w2.cell? ⟨w.heap.size, 7, none⟩ = some (.int .i64 sw) := (hc2 w.heap.size 7 (by simp)).trans (by simp)
      have y8 : w2.cell? ⟨w.heap.size, 8, none⟩ = some (.string nm) := (hc2 w.heap.size 8 (by simp)).trans (by simp)
      clear hc2 hf2 hr1 hr2 hr4 hr5 hr
      go_upto_region 8 with fail
      go_cut [6, 7] (fun s6 s7 wx => CutL ns ⟨k, pa, pb, pc, n, m, si, sw, nm⟩ w2 s6 s7 wx)
      case first =>
        refine wp_region_held_drew (S := (fun w' => w'.cell? ⟨w.heap.size, 0, none⟩ = some (.int .i64 k) ∧ w'.cell? ⟨w.heap.size, 1, none⟩ = some (.int .i64 pa) ∧ w'.cell? ⟨w.heap.size, 2, none⟩ = some (.int .i64 pb) ∧ w'.cell? ⟨w.heap.size, 3, none⟩ = some (.int .i64 pc) ∧ w'.cell? ⟨w.heap.size, 4, none⟩ = some (.int .i64 n) ∧ w'.cell? ⟨w.heap.size, 5, none⟩ = some (.int .i64 m) ∧ w'.cell? ⟨w.heap.size, 6, none⟩ = some (.int .i64 si) ∧ w'.cell? ⟨w.heap.size, 7, none⟩ = some (.int .i64 sw) ∧ w'.cell? ⟨w.heap.size, 8, none⟩ = some (.string nm))) (by kernel_rfl) ?_ (fun hHeld => ?_)
        · exact keep9 (by go_grown) hl2 y0 y1 y2 y3 y4 y5 y6 y7 y8
        refine takeL (v := ?_) 0 (some 22) rfl (by kernel_rfl) (by kernel_rfl) (by kernel_rfl) (by kernel_rfl) (fun _ _ _ h => h) (by rfl) ?_ (by assumption) ?_
        rotate_left
        · (intro w hSw; (try dsimp only at hSw); go_simp <;> (with_reducible rfl))
        (try simp only [Act.put, List.setIfInBounds_toArray, List.set_cons_zero, List.set_cons_succ])
        refine takeL (v := ?_) 2 (some 24) rfl (by kernel_rfl) (by kernel_rfl) (by kernel_rfl) (by kernel_rfl) (fun _ _ _ h => h) (by rfl) ?_ (by assumption) ?_
        rotate_left
        · (intro w hSw; (try dsimp only at hSw); go_simp <;> (with_reducible rfl))
        (try simp only [Act.put, List.setIfInBounds_toArray, List.set_cons_zero, List.set_cons_succ])
        refine wpAnyH_ready (rs := [1, 8]) (by kernel_rfl) (by simp) ?_
        refine AllReadyH.cons (o := _) rfl (fun K hK => ?_) ?_
        · go_simp
          refine (c_toNodeS _ (Nat.le_refl _) (HN.out.below' (show Below w.heap.size w _ by go_grown)) hlen).mono ?_; rintro e w4 ⟨rfl, hN4, hB4⟩; (try (with_reducible have hZ := ZB.below (ZB.newD w2) hB4)); (try (rw [show (w2.alloc (.cells #[.int .i64 0, .int .i64 0] 25)).drew.heap.size = w2.heap.size + 1 by simp] at hN4)); have HN4 := Go.Lib.hid hN4; clear hN4; have hb4 : Below w2.heap.size w2 w4 := bstep (by go_grown) (Nat.le_refl _) hB4; have hbw4 : Below w.heap.size w w4 := bstep (by go_grown) (Nat.le_refl _) hB4; have ht4 := hb4.size; clear hB4
          (try go_wp2_with fail)
          (try clear hHeld)
          refine hK.out _ _ ?_ (fun hHeld => ?_)
          · exact keep9 (by go_grown) hl2 y0 y1 y2 y3 y4 y5 y6 y7 y8
          clear hK K
          (try simp only [Act.put, List.setIfInBounds_toArray, List.set_cons_zero, List.set_cons_succ])
          refine wpAnyH_ready (rs := [3, 8]) (by kernel_rfl) (by simp) ?_
          refine AllReadyH.cons (o := _) rfl (fun K hK => ?_) ?_
          · go_simp
            refine (c_toNode ⟨k, pa, pb, pc, n, m, si, sw, nm⟩ _).mono ?_; rintro e w5 ⟨rfl, hB5⟩; (try (with_reducible have hZ := ZB.below (ZB.new w4) hB5)); (try (with_reducible have hZ := ZB.below hZ hB5)); have HN5 := Go.Lib.hid (NodesAt.below2 HN4.out (show Below w4.heap.size w4 _ by go_grown) hB5); have hb5 : Below w2.heap.size w2 w5 := bstep (by go_grown) (Nat.le_refl _) hB5; have hbw5 : Below w.heap.size w w5 := bstep (by go_grown) (Nat.le_refl _) hB5; have ht5 := hb5.size; clear hB5
            (try go_wp2_with fail)
            (try clear hHeld)
            refine hK.out _ _ ?_ (fun hHeld => ?_)
            · exact keep9 (by go_grown) hl2 y0 y1 y2 y3 y4 y5 y6 y7 y8
            clear hK K
            (try simp only [Act.put, List.setIfInBounds_toArray, List.set_cons_zero, List.set_cons_succ])
            refine wpAnyH_ready (rs := [4, 8]) (by kernel_rfl) (by simp) ?_
            refine AllReadyH.cons (o := _) rfl (fun K hK => ?_) ?_
            · go_simp
              first | (with_reducible refine (c_NodeSortS ⟨k, pa, pb, pc, n, m, si, sw, nm⟩ hx w5 (Nat.le_refl _) HN5.out).mono ?_) | (refine (c_NodeSortS ⟨k, pa, pb, pc, n, m, si, sw, nm⟩ hx _ (by go_size) (HN5.out.below' (by go_grown))).mono ?_)
              rintro e w6 ⟨rfl, hB6⟩; (try (with_reducible have hZ := ZB.below (ZB.new w5) hB6)); (try (with_reducible have hZ := ZB.below hZ hB6)); have hb6 : Below w2.heap.size w2 w6 := bstep (by go_grown) (Nat.le_refl _) hB6; have ht6 := hb6.size; clear hB6; (try (obtain ⟨kE, kA, kB, kC, kD⟩ := hZ))
              (try go_wp2_with fail)
              (try clear hHeld)
              refine hK.out _ _ ?_ (fun hHeld => ?_)
              · exact keep9 (by go_grown) hl2 y0 y1 y2 y3 y4 y5 y6 y7 y8
              clear hK K
              (try simp only [Act.put, List.setIfInBounds_toArray, List.set_cons_zero, List.set_cons_succ])
              refine takeL (v := ?_) 5 (some 21) rfl (by kernel_rfl) (by kernel_rfl) (by kernel_rfl) (by kernel_rfl) (fun _ _ _ h => h) (by rfl) ?_ (by assumption) ?_
              rotate_left
              · (intro w hSw; (try dsimp only at hSw); go_simp <;> (with_reducible rfl))
              (try simp only [Act.put, List.setIfInBounds_toArray, List.set_cons_zero, List.set_cons_succ])
              refine takeL (v := ?_) 6 (some 27) rfl (by kernel_rfl) (by kernel_rfl) (by kernel_rfl) (by kernel_rfl) (fun _ _ _ h => h) (by rfl) ?_ (by assumption) ?_
              rotate_left
              · (intro w hSw; (try dsimp only at hSw); go_simp <;> (with_reducible rfl))
              (try simp only [Act.put, List.setIfInBounds_toArray, List.set_cons_zero, List.set_cons_succ])
              refine takeL (v := ?_) 7 (some 28) rfl (by kernel_rfl) (by kernel_rfl) (by kernel_rfl) (by kernel_rfl) (fun _ _ _ h => h) (by rfl) ?_ (by assumption) ?_
              rotate_left
              · (intro w hSw; (try dsimp only at hSw); go_simp <;> (with_reducible rfl))
              (try simp only [Act.put, List.setIfInBounds_toArray, List.set_cons_zero, List.set_cons_succ])
              refine wpAnyH_ready (rs := [8]) (by kernel_rfl) (by simp) ?_
              refine AllReadyH.cons (o := _) rfl (fun K hK => ?_) AllReadyH.nil
              go_simp
              (try clear hHeld)
              refine hK.out _ _ ?_ (fun hHeld => ?_)
              · exact keep9 (by go_grown) hl2 y0 y1 y2 y3 y4 y5 y6 y7 y8
              clear hK K
              (try simp only [Act.put, List.setIfInBounds_toArray, List.set_cons_zero, List.set_cons_succ])
              refine wpAnyH_ready (rs := [9]) (by kernel_rfl) (by simp) ?_
              refine AllReadyH.cons (o := _) rfl (fun K hK => ?_) AllReadyH.nil
              go_simp
              (try clear hHeld)
              refine hK.out _ _ ?_ (fun hHeld => ?_)
              · exact keep9 (by go_grown) hl2 y0 y1 y2 y3 y4 y5 y6 y7 y8
              clear hK K
              (try simp only [Act.put, List.setIfInBounds_toArray, List.set_cons_zero, List.set_cons_succ])
              refine takeL (v := ?_) 10 (some 7) rfl (by kernel_rfl) (by kernel_rfl) (by kernel_rfl) (by kernel_rfl) (fun _ _ _ h => h) (by rfl) ?_ (by assumption) ?_
              rotate_left
              · (intro w hSw; (try dsimp only at hSw); go_simp <;> (with_reducible rfl))
              (try simp only [Act.put, List.setIfInBounds_toArray, List.set_cons_zero, List.set_cons_succ])
              refine wpAnyH_done (by kernel_rfl) ?_ _
              go_wp2_with fail
              go_meet
              clear hHeld
              refine ⟨_, rfl, rfl, ?_, ?_, ?_, ?_⟩
              · refine ⟨by omega, ?_⟩; first | exact Nat.lt_of_lt_of_le kE (by simp) | (simp; done)
              · first | exact set2_0 kA | (simp; done) | (simp [*]; done)
              · first | exact set2_1 kB | (simp; done) | (simp [*]; done)
              · go_grown
            refine AllReadyH.cons (o := _) rfl (fun K hK => ?_) ?_
            · go_simp
              (try clear hHeld)
              refine hK.out _ _ ?_ (fun hHeld => ?_)
              · exact keep9 (by go_grown) hl2 y0 y1 y2 y3 y4 y5 y6 y7 y8
              clear hK K
              (try simp only [Act.put, List.setIfInBounds_toArray, List.set_cons_zero, List.set_cons_succ])
              refine wpAnyH_ready (rs := [4]) (by kernel_rfl) (by simp) ?_
              refine AllReadyH.cons (o := _) rfl (fun K hK => ?_) AllReadyH.nil
              go_simp
              first | (with_reducible refine (c_NodeSortS ⟨k, pa, pb, pc, n, m, si, sw, nm⟩ hx w5 (Nat.le_refl _) HN5.out).mono ?_) | (refine (c_NodeSortS ⟨k, pa, pb, pc, n, m, si, sw, nm⟩ hx _ (by go_size) (HN5.out.below' (by go_grown))).mono ?_)
              rintro e w6 ⟨rfl, hB6⟩; (try (with_reducible have hZ := ZB.below (ZB.new w5) hB6)); (try (with_reducible have hZ := ZB.below hZ hB6)); have hb6 : Below w2.heap.size w2 w6 := bstep (by go_grown) (Nat.le_refl _) hB6; have ht6 := hb6.size; clear hB6; (try (obtain ⟨kE, kA, kB, kC, kD⟩ := hZ))
              (try go_wp2_with fail)
              (try clear hHeld)
              refine hK.out _ _ ?_ (fun hHeld => ?_)
              · exact keep9 (by go_grown) hl2 y0 y1 y2 y3 y4 y5 y6 y7 y8
              clear hK K
              (try simp only [Act.put, List.setIfInBounds_toArray, List.set_cons_zero, List.set_cons_succ])
              refine takeL (v := ?_) 5 (some 21) rfl (by kernel_rfl) (by kernel_rfl) (by kernel_rfl) (by kernel_rfl) (fun _ _ _ h => h) (by rfl) ?_ (by assumption) ?_
              rotate_left
              · (intro w hSw; (try dsimp only at hSw); go_simp <;> (with_reducible rfl))
              (try simp only [Act.put, List.setIfInBounds_toArray, List.set_cons_zero, List.set_cons_succ])
              refine takeL (v := ?_) 6 (some 27) rfl (by kernel_rfl) (by kernel_rfl) (by kernel_rfl) (by kernel_rfl) (fun _ _ _ h => h) (by rfl) ?_ (by assumption) ?_
              rotate_left
              · (intro w hSw; (try dsimp only at hSw); go_simp <;> (with_reducible rfl))
              (try simp only [Act.put, List.setIfInBounds_toArray, List.set_cons_zero, List.set_cons_succ])
              refine takeL (v := ?_) 7 (some 28) rfl (by kernel_rfl) (by kernel_rfl) (by kernel_rfl) (by kernel_rfl) (fun _ _ _ h => h) (by rfl) ?_ (by assumption) ?_
              rotate_left
              · (intro w hSw; (try dsimp only at hSw); go_simp <;> (with_reducible rfl))
              (try simp only [Act.put, List.setIfInBounds_toArray, List.set_cons_zero, List.set_cons_succ])
              refine wpAnyH_ready (rs := [9]) (by kernel_rfl) (by simp) ?_
              refine AllReadyH.cons (o := _) rfl (fun K hK => ?_) AllReadyH.nil
              go_simp
              (try clear hHeld)
              refine hK.out _ _ ?_ (fun hHeld => ?_)
              · exact keep9 (by go_grown) hl2 y0 y1 y2 y3 y4 y5 y6 y7 y8
              clear hK K
              (try simp only [Act.put, List.setIfInBounds_toArray, List.set_cons_zero, List.set_cons_succ])
              refine takeL (v := ?_) 10 (some 7) rfl (by kernel_rfl) (by kernel_rfl) (by kernel_rfl) (by kernel_rfl) (fun _ _ _ h => h) (by rfl) ?_ (by assumption) ?_
              rotate_left
              · (intro w hSw; (try dsimp only at hSw); go_simp <;> (with_reducible rfl))
              (try simp only [Act.put, List.setIfInBounds_toArray, List.set_cons_zero, List.set_cons_succ])
              refine wpAnyH_done (by kernel_rfl) ?_ _
              go_wp2_with fail
              go_meet
              clear hHeld
              refine ⟨_, rfl, rfl, ?_, ?_, ?_, ?_⟩
              · refine ⟨by omega, ?_⟩; first | exact Nat.lt_of_lt_of_le kE (by simp) | (simp; done)
              · first | exact set2_0 kA | (simp; done) | (simp [*]; done)
              · first | exact set2_1 kB | (simp; done) | (simp [*]; done)
              · go_grown
            exact AllReadyH.nil
          refine AllReadyH.cons (o := _) rfl (fun K hK => ?_) ?_
          · go_simp
            (try clear hHeld)
            refine hK.out _ _ ?_ (fun hHeld => ?_)
            · exact keep9 (by go_grown) hl2 y0 y1 y2 y3 y4 y5 y6 y7 y8
            clear hK K
            (try simp only [Act.put, List.setIfInBounds_toArray, List.set_cons_zero, List.set_cons_succ])
            refine wpAnyH_ready (rs := [3]) (by kernel_rfl) (by simp) ?_
            refine AllReadyH.cons (o := _) rfl (fun K hK => ?_) AllReadyH.nil
            go_simp
            refine (c_toNode ⟨k, pa, pb, pc, n, m, si, sw, nm⟩ _).mono ?_; rintro e w5 ⟨rfl, hB5⟩; (try (with_reducible have hZ := ZB.below (ZB.new w4) hB5)); (try (with_reducible have hZ := ZB.below hZ hB5)); have HN5 := Go.Lib.hid (NodesAt.below2 HN4.out (show Below w4.heap.size w4 _ by go_grown) hB5); have hb5 : Below w2.heap.size w2 w5 := bstep (by go_grown) (Nat.le_refl _) hB5; have hbw5 : Below w.heap.size w w5 := bstep (by go_grown) (Nat.le_refl _) hB5; have ht5 := hb5.size; clear hB5
            (try go_wp2_with fail)
            (try clear hHeld)
            refine hK.out _ _ ?_ (fun hHeld => ?_)
            · exact keep9 (by go_grown) hl2 y0 y1 y2 y3 y4 y5 y6 y7 y8
            clear hK K
            (try simp only [Act.put, List.setIfInBounds_toArray, List.set_cons_zero, List.set_cons_succ])
            refine wpAnyH_ready (rs := [4]) (by kernel_rfl) (by simp) ?_
            refine AllReadyH.cons (o := _) rfl (fun K hK => ?_) AllReadyH.nil
            go_simp
            first | (with_reducible refine (c_NodeSortS ⟨k, pa, pb, pc, n, m, si, sw, nm⟩ hx w5 (Nat.le_refl _) HN5.out).mono ?_) | (refine (c_NodeSortS ⟨k, pa, pb, pc, n, m, si, sw, nm⟩ hx _ (by go_size) (HN5.out.below' (by go_grown))).mono ?_)
            rintro e w6 ⟨rfl, hB6⟩; (try (with_reducible have hZ := ZB.below (ZB.new w5) hB6)); (try (with_reducible have hZ := ZB.below hZ hB6)); have hb6 : Below w2.heap.size w2 w6 := bstep (by go_grown) (Nat.le_refl _) hB6; have ht6 := hb6.size; clear hB6; (try (obtain ⟨kE, kA, kB, kC, kD⟩ := hZ))
            (try go_wp2_with fail)
            (try clear hHeld)
            refine hK.out _ _ ?_ (fun hHeld => ?_)
            · exact keep9 (by go_grown) hl2 y0 y1 y2 y3 y4 y5 y6 y7 y8
            clear hK K
            (try simp only [Act.put, List.setIfInBounds_toArray, List.set_cons_zero, List.set_cons_succ])
            refine takeL (v := ?_) 5 (some 21) rfl (by kernel_rfl) (by kernel_rfl) (by kernel_rfl) (by kernel_rfl) (fun _ _ _ h => h) (by rfl) ?_ (by assumption) ?_
            rotate_left
            · (intro w hSw; (try dsimp only at hSw); go_simp <;> (with_reducible rfl))
            (try simp only [Act.put, List.setIfInBounds_toArray, List.set_cons_zero, List.set_cons_succ])
            refine takeL (v := ?_) 6 (some 27) rfl (by kernel_rfl) (by kernel_rfl) (by kernel_rfl) (by kernel_rfl) (fun _ _ _ h => h) (by rfl) ?_ (by assumption) ?_
            rotate_left
            · (intro w hSw; (try dsimp only at hSw); go_simp <;> (with_reducible rfl))
            (try simp only [Act.put, List.setIfInBounds_toArray, List.set_cons_zero, List.set_cons_succ])
            refine takeL (v := ?_) 7 (some 28) rfl (by kernel_rfl) (by kernel_rfl) (by kernel_rfl) (by kernel_rfl) (fun _ _ _ h => h) (by rfl) ?_ (by assumption) ?_
            rotate_left
            · (intro w hSw; (try dsimp only at hSw); go_simp <;> (with_reducible rfl))
            (try simp only [Act.put, List.setIfInBounds_toArray, List.set_cons_zero, List.set_cons_succ])
            refine wpAnyH_ready (rs := [9]) (by kernel_rfl) (by simp) ?_
            refine AllReadyH.cons (o := _) rfl (fun K hK => ?_) AllReadyH.nil
            go_simp
            (try clear hHeld)
            refine hK.out _ _ ?_ (fun hHeld => ?_)
            · exact keep9 (by go_grown) hl2 y0 y1 y2 y3 y4 y5 y6 y7 y8
            clear hK K
            (try simp only [Act.put, List.setIfInBounds_toArray, List.set_cons_zero, List.set_cons_succ])
            refine takeL (v := ?_) 10 (some 7) rfl (by kernel_rfl) (by kernel_rfl) (by kernel_rfl) (by kernel_rfl) (fun _ _ _ h => h) (by rfl) ?_ (by assumption) ?_
            rotate_left
            · (intro w hSw; (try dsimp only at hSw); go_simp <;> (with_reducible rfl))
            (try simp only [Act.put, List.setIfInBounds_toArray, List.set_cons_zero, List.set_cons_succ])
            refine wpAnyH_done (by kernel_rfl) ?_ _
            go_wp2_with fail
            go_meet
            clear hHeld
            refine ⟨_, rfl, rfl, ?_, ?_, ?_, ?_⟩
            · refine ⟨by omega, ?_⟩; first | exact Nat.lt_of_lt_of_le kE (by simp) | (simp; done)
            · first | exact set2_0 kA | (simp; done) | (simp [*]; done)
            · first | exact set2_1 kB | (simp; done) | (simp [*]; done)
            · go_grown
          exact AllReadyH.nil
        refine AllReadyH.cons (o := _) rfl (fun K hK => ?_) ?_
        · go_simp
          (try clear hHeld)
          refine hK.out _ _ ?_ (fun hHeld => ?_)
          · exact keep9 (by go_grown) hl2 y0 y1 y2 y3 y4 y5 y6 y7 y8
          clear hK K
          (try simp only [Act.put, List.setIfInBounds_toArray, List.set_cons_zero, List.set_cons_succ])
          refine wpAnyH_ready (rs := [1]) (by kernel_rfl) (by simp) ?_
          refine AllReadyH.cons (o := _) rfl (fun K hK => ?_) AllReadyH.nil
          go_simp
          refine (c_toNodeS _ (Nat.le_refl _) (HN.out.below' (show Below w.heap.size w _ by go_grown)) hlen).mono ?_; rintro e w4 ⟨rfl, hN4, hB4⟩; (try (with_reducible have hZ := ZB.below (ZB.newD w2) hB4)); (try (rw [show (w2.alloc (.cells #[.int .i64 0, .int .i64 0] 25)).drew.heap.size = w2.heap.size + 1 by simp] at hN4)); have HN4 := Go.Lib.hid hN4; clear hN4; have hb4 : Below w2.heap.size w2 w4 := bstep (by go_grown) (Nat.le_refl _) hB4; have hbw4 : Below w.heap.size w w4 := bstep (by go_grown) (Nat.le_refl _) hB4; have ht4 := hb4.size; clear hB4
          (try go_wp2_with fail)
          (try clear hHeld)
          refine hK.out _ _ ?_ (fun hHeld => ?_)
          · exact keep9 (by go_grown) hl2 y0 y1 y2 y3 y4 y5 y6 y7 y8
          clear hK K
          (try simp only [Act.put, List.setIfInBounds_toArray, List.set_cons_zero, List.set_cons_succ])
          refine wpAnyH_ready (rs := [3]) (by kernel_rfl) (by simp) ?_
          refine AllReadyH.cons (o := _) rfl (fun K hK => ?_) AllReadyH.nil
          go_simp
          refine (c_toNode ⟨k, pa, pb, pc, n, m, si, sw, nm⟩ _).mono ?_; rintro e w5 ⟨rfl, hB5⟩; (try (with_reducible have hZ := ZB.below (ZB.new w4) hB5)); (try (with_reducible have hZ := ZB.below hZ hB5)); have HN5 := Go.Lib.hid (NodesAt.below2 HN4.out (show Below w4.heap.size w4 _ by go_grown) hB5); have hb5 : Below w2.heap.size w2 w5 := bstep (by go_grown) (Nat.le_refl _) hB5; have hbw5 : Below w.heap.size w w5 := bstep (by go_grown) (Nat.le_refl _) hB5; have ht5 := hb5.size; clear hB5
          (try go_wp2_with fail)
          (try clear hHeld)
          refine hK.out _ _ ?_ (fun hHeld => ?_)
          · exact keep9 (by go_grown) hl2 y0 y1 y2 y3 y4 y5 y6 y7 y8
          clear hK K
          (try simp only [Act.put, List.setIfInBounds_toArray, List.set_cons_zero, List.set_cons_succ])
          refine wpAnyH_ready (rs := [4]) (by kernel_rfl) (by simp) ?_
          refine AllReadyH.cons (o := _) rfl (fun K hK => ?_) AllReadyH.nil
          go_simp
          first | (with_reducible refine (c_NodeSortS ⟨k, pa, pb, pc, n, m, si, sw, nm⟩ hx w5 (Nat.le_refl _) HN5.out).mono ?_) | (refine (c_NodeSortS ⟨k, pa, pb, pc, n, m, si, sw, nm⟩ hx _ (by go_size) (HN5.out.below' (by go_grown))).mono ?_)
          rintro e w6 ⟨rfl, hB6⟩; (try (with_reducible have hZ := ZB.below (ZB.new w5) hB6)); (try (with_reducible have hZ := ZB.below hZ hB6)); have hb6 : Below w2.heap.size w2 w6 := bstep (by go_grown) (Nat.le_refl _) hB6; have ht6 := hb6.size; clear hB6; (try (obtain ⟨kE, kA, kB, kC, kD⟩ := hZ))
          (try go_wp2_with fail)
          (try clear hHeld)
          refine hK.out _ _ ?_ (fun hHeld => ?_)
          · exact keep9 (by go_grown) hl2 y0 y1 y2 y3 y4 y5 y6 y7 y8
          clear hK K
          (try simp only [Act.put, List.setIfInBounds_toArray, List.set_cons_zero, List.set_cons_succ])
          refine takeL (v := ?_) 5 (some 21) rfl (by kernel_rfl) (by kernel_rfl) (by kernel_rfl) (by kernel_rfl) (fun _ _ _ h => h) (by rfl) ?_ (by assumption) ?_
          rotate_left
          · (intro w hSw; (try dsimp only at hSw); go_simp <;> (with_reducible rfl))
          (try simp only [Act.put, List.setIfInBounds_toArray, List.set_cons_zero, List.set_cons_succ])
          refine takeL (v := ?_) 6 (some 27) rfl (by kernel_rfl) (by kernel_rfl) (by kernel_rfl) (by kernel_rfl) (fun _ _ _ h => h) (by rfl) ?_ (by assumption) ?_
          rotate_left
          · (intro w hSw; (try dsimp only at hSw); go_simp <;> (with_reducible rfl))
          (try simp only [Act.put, List.setIfInBounds_toArray, List.set_cons_zero, List.set_cons_succ])
          refine takeL (v := ?_) 7 (some 28) rfl (by kernel_rfl) (by kernel_rfl) (by kernel_rfl) (by kernel_rfl) (fun _ _ _ h => h) (by rfl) ?_ (by assumption) ?_
          rotate_left
          · (intro w hSw; (try dsimp only at hSw); go_simp <;> (with_reducible rfl))
          (try simp only [Act.put, List.setIfInBounds_toArray, List.set_cons_zero, List.set_cons_succ])
          refine wpAnyH_ready (rs := [9]) (by kernel_rfl) (by simp) ?_
          refine AllReadyH.cons (o := _) rfl (fun K hK => ?_) AllReadyH.nil
          go_simp
          (try clear hHeld)
          refine hK.out _ _ ?_ (fun hHeld => ?_)
          · exact keep9 (by go_grown) hl2 y0 y1 y2 y3 y4 y5 y6 y7 y8
          clear hK K
          (try simp only [Act.put, List.setIfInBounds_toArray, List.set_cons_zero, List.set_cons_succ])
          refine takeL (v := ?_) 10 (some 7) rfl (by kernel_rfl) (by kernel_rfl) (by kernel_rfl) (by kernel_rfl) (fun _ _ _ h => h) (by rfl) ?_ (by assumption) ?_
          rotate_left
          · (intro w hSw; (try dsimp only at hSw); go_simp <;> (with_reducible rfl))
          (try simp only [Act.put, List.setIfInBounds_toArray, List.set_cons_zero, List.set_cons_succ])
          refine wpAnyH_done (by kernel_rfl) ?_ _
          go_wp2_with fail
          go_meet
          clear hHeld
          refine ⟨_, rfl, rfl, ?_, ?_, ?_, ?_⟩
          · refine ⟨by omega, ?_⟩; first | exact Nat.lt_of_lt_of_le kE (by simp) | (simp; done)
          · first | exact set2_0 kA | (simp; done) | (simp [*]; done)
          · first | exact set2_1 kB | (simp; done) | (simp [*]; done)
          · go_grown
        exact AllReadyH.nil
      case rest =>
        obtain ⟨g, rfl, rfl, ⟨hg, hgl⟩, d0, d1, hB⟩ := hcut
        have hbwc : Below w.heap.size w wc := bstep hbw2 (Nat.le_refl _) hB
        have z0 := (hB.cell (p := ⟨w.heap.size, 0, none⟩) hl2).trans y0
        have z1 := (hB.cell (p := ⟨w.heap.size, 1, none⟩) hl2).trans y1
        have z2 := (hB.cell (p := ⟨w.heap.size, 2, none⟩) hl2).trans y2
        have z3 := (hB.cell (p := ⟨w.heap.size, 3, none⟩) hl2).trans y3
        have z4 := (hB.cell (p := ⟨w.heap.size, 4, none⟩) hl2).trans y4
        have z5 := (hB.cell (p := ⟨w.heap.size, 5, none⟩) hl2).trans y5
        have z6 := (hB.cell (p := ⟨w.heap.size, 6, none⟩) hl2).trans y6
        have z7 := (hB.cell (p := ⟨w.heap.size, 7, none⟩) hl2).trans y7
        have z8 := (hB.cell (p := ⟨w.heap.size, 8, none⟩) hl2).trans y8
        have hlc : w.heap.size < wc.heap.size := Nat.lt_of_lt_of_le hl2 hB.size
        clear hB hg y0 y1 y2 y3 y4 y5 y6 y7 y8
        go_wp2_with fail
        refine (c_toNodeS wc (Nat.le_refl _) (HN.out.below' hbwc) hlen).mono ?_
        rintro e w4 ⟨rfl, hN4, hB4⟩
        have HN4 := Go.Lib.hid hN4
        have HB4 := Go.Lib.hid hB4
        have x0 := (hB4.cell (p := ⟨w.heap.size, 0, none⟩) hlc).trans z0
        have x1 := (hB4.cell (p := ⟨w.heap.size, 1, none⟩) hlc).trans z1
        have x2 := (hB4.cell (p := ⟨w.heap.size, 2, none⟩) hlc).trans z2
        have x3 := (hB4.cell (p := ⟨w.heap.size, 3, none⟩) hlc).trans z3
        have x4 := (hB4.cell (p := ⟨w.heap.size, 4, none⟩) hlc).trans z4
        have x5 := (hB4.cell (p := ⟨w.heap.size, 5, none⟩) hlc).trans z5
        have x6 := (hB4.cell (p := ⟨w.heap.size, 6, none⟩) hlc).trans z6
        have x7 := (hB4.cell (p := ⟨w.heap.size, 7, none⟩) hlc).trans z7
        have x8 := (hB4.cell (p := ⟨w.heap.size, 8, none⟩) hlc).trans z8
        clear hN4 hB4 z0 z1 z2 z3 z4 z5 z6 z7 z8
        go_wp2_with fail
        refine (c_toNode ⟨k, pa, pb, pc, n, m, si, sw, nm⟩ _).mono ?_
        rintro e w5 ⟨rfl, hB5⟩
        have HN5 := Go.Lib.hid (HN4.out.below' hB5)
        have HB5 := Go.Lib.hid (bstep HB4.out (Nat.le_refl _) hB5)
        clear hB5 x0 x1 x2 x3 x4 x5 x6 x7 x8
        go_wp2_with fail
        refine (c_NodeSortI ⟨k, pa, pb, pc, n, m, si, sw, nm⟩ hx _ (Nat.le_refl _) HN5.out).mono ?_
        rintro e w6 ⟨rfl, hB6⟩
        have HN6 := Go.Lib.hid (HN5.out.below' hB6)
        have HB6 := Go.Lib.hid (bstep HB5.out (Nat.le_refl _) hB6)
        have e0 := (HB6.out.cell (p := ⟨g, 0, none⟩) hgl).trans d0
        have e1 := (HB6.out.cell (p := ⟨g, 1, none⟩) hgl).trans d1
        have hg6 : g < w6.heap.size := Nat.lt_of_lt_of_le hgl HB6.out.size
        have hg6' : ¬ g = w6.heap.size := by omega
        have hde : decide ((nSort ns ⟨k, pa, pb, pc, n, m, si, sw, nm⟩).1 = (nSort ns ⟨k, pa, pb, pc, n, m, si, sw, nm⟩).1 ∧ (nSort ns ⟨k, pa, pb, pc, n, m, si, sw, nm⟩).2 = (nSort ns ⟨k, pa, pb, pc, n, m, si, sw, nm⟩).2) = true := by simp
        clear hB6 d0 d1
        go_wp2_with fail
        refine (c_eqSort _ _ _ _ _).mono ?_
        rintro e w7 ⟨rfl, hB7⟩
        have HN7 := Go.Lib.hid (NodesAt.below2 HN6.out (show Below w6.heap.size w6 _ by go_grown) hB7)
        have HB7 := Go.Lib.hid (bstep ((HB6.out.alloc HB6.out.size _)) (Nat.le_refl _) hB7)
        clear hB7 e0 e1 hg6 hg6'
        go_wp2_with fail
        have HA7 := Go.Lib.hid (hbwc.trans (HB7.out.mono hbwc.size))
        refine (c_toNodeS w7 (Nat.le_refl _) (HN.out.below' HA7.out) hlen).mono ?_
        rintro e w8 ⟨rfl, hN8, hB8⟩
        have HN8 := Go.Lib.hid hN8
        have HX8 := Go.Lib.hid (HN7.out.below' hB8)
        have HA8 := Go.Lib.hid (bstep HA7.out (Nat.le_refl _) hB8)
        clear hN8 hB8
        go_wp2_with fail
        refine (c_eqNodeS w8 (Nat.le_refl _) HX8.out HN8.out).mono ?_
        rintro e w9 ⟨rfl, hB9⟩
        have HA9 := Go.Lib.hid (bstep HA8.out (Nat.le_refl _) hB9)
        clear hB9
        go_wp2_with fail
        go_ret
        exact ⟨rfl, HA9.out⟩
end Go.Proofs.Ytnbmhnbcmfcchaa
