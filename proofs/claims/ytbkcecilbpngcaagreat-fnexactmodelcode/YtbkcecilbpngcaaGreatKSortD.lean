/-
  The sort that a kind makes of the sorts of its parts: the program.
-/
import Derived.Test.YtbkcecilbpngcaaGreatRows
import Derived.Test.YtbkcecilbpngcaaGreatPaA
import Derived.Test.YtbkcecilbpngcaaGreatNodeM
import Derived.Test.YtbkcecilbpngcaaGreatNames
import Derived.Test.YtbkcecilbpngcaaGreatFieldsS
import Derived.Test.YtbkcecilbpngcaaGreatNodeL
import Derived.Test.YtbkcecilbpngcaaGreatTwo
import Derived.Test.YtbkcecilbpngcaaGreatResP
import Derived.Test.YtbkcecilbpngcaaGreatNSortI
import Derived.Test.YtbkcecilbpngcaaGreatWidthI
import Derived.Test.YtbkcecilbpngcaaGreatKSortP
import Derived.WalkKit
import Derived.ProofKit
import Derived.OpenShut
import Derived.WalkSpells
import Derived.WalkLawsBesides
import Derived.Outline
import Derived.BigQuiet
import Derived.Handy
import Derived.LoopTactic
import Derived.Deep.Light
import Derived.Deep.RegionWith
import Derived.Deep.RegionHeld3
import Derived.Lib.Hide
import Derived.Deep.DeepCutAuto
namespace Go.Proofs.YtbkcecilbpngcaaGreat
open Go.ChangeShapes Go.WideShapes Go.ChangeAt Go.RowKit
set_option linter.unusedVariables false

theorem c_kindWidth (x : ND) (hk1 : 1 ≤ x.kind) (hk2 : x.kind ≤ 32) (u v : Int) (w : World) :
    Calls Tryz.prog 120 #[.agg x.cells.toArray, .int .i64 u, .int .i64 v] w (KWP x u v w) := by
  by_cases h : 6 ≤ x.kind ∧ x.kind ≤ 28
  · exact c_kwTwo x h.1 h.2 u v w
  · rcases (by omega : x.kind = 1 ∨ x.kind = 2 ∨ x.kind = 3 ∨ x.kind = 4 ∨ x.kind = 5 ∨ x.kind = 29 ∨ x.kind = 30 ∨ x.kind = 31 ∨ x.kind = 32) with h | h | h | h | h | h | h | h | h
    · exact c_kw1 x h u v w
    · exact c_kw2 x h u v w
    · exact c_kw3 x h u v w
    · exact c_kw4 x h u v w
    · exact c_kw5 x h u v w
    · exact c_kw29 x h u v w
    · exact c_kw30 x h u v w
    · exact c_kw31 x h u v w
    · exact c_kw32 x h u v w
set_option maxRecDepth 100000 in
set_option maxHeartbeats 8000000 in
theorem c_ksWords (x : ND) (hk1 : 1 ≤ x.kind) (hk2 : x.kind ≤ 32) (hk3 : x.kind ≠ 21) (a b c : Int × Int) (w : World) :
    Calls Tryz.prog 97 #[.agg x.cells.toArray, .agg #[.int .i64 a.1, .int .i64 a.2, .int .i64 b.1, .int .i64 b.2, .int .i64 c.1, .int .i64 c.2]] w (ResP x a b c w) := by
  obtain ⟨k, pa, pb, pc, n, m, si, sw, nm⟩ := x
  simp only [ND.cells] at *
  obtain ⟨ai, aw⟩ := a
  obtain ⟨bi, bw⟩ := b
  obtain ⟨ci, cw⟩ := c
  simp only at *
  have q35 : (k == 35) = false := by simp; omega
  have q36 : (k == 36) = false := by simp; omega
  have q34 : (k == 34) = false := by simp; omega
  have q33 : (k == 33) = false := by simp; omega
  have q21 : (k == 21) = false := by simp; omega
  have q37 : (k == 37) = false := by simp; omega
  have q38 : (k == 38) = false := by simp; omega
  have HWK := Go.Lib.hid (show WK k by unfold WK namedB; simp; omega)
  have HK1 := Go.Lib.hid hk1
  have HK2 := Go.Lib.hid hk2
  clear hk1 hk2 hk3
  have s0 : (((w.alloc (.cells #[.int .i64 k, .int .i64 pa, .int .i64 pb, .int .i64 pc, .int .i64 n, .int .i64 m, .int .i64 si, .int .i64 sw, .string nm] 66)).alloc (.cells #[.int .i64 ai, .int .i64 aw, .int .i64 bi, .int .i64 bw, .int .i64 ci, .int .i64 cw] 114)).alloc (.cells #[.int .i64 0, .int .i64 0] 64)).cell? ⟨w.heap.size + 1, 0, none⟩ = some (.int .i64 ai) := cell3_1 _ _ _ _ _ 0
  have s1 : (((w.alloc (.cells #[.int .i64 k, .int .i64 pa, .int .i64 pb, .int .i64 pc, .int .i64 n, .int .i64 m, .int .i64 si, .int .i64 sw, .string nm] 66)).alloc (.cells #[.int .i64 ai, .int .i64 aw, .int .i64 bi, .int .i64 bw, .int .i64 ci, .int .i64 cw] 114)).alloc (.cells #[.int .i64 0, .int .i64 0] 64)).cell? ⟨w.heap.size + 1, 1, none⟩ = some (.int .i64 aw) := cell3_1 _ _ _ _ _ 1
  have s2 : (((w.alloc (.cells #[.int .i64 k, .int .i64 pa, .int .i64 pb, .int .i64 pc, .int .i64 n, .int .i64 m, .int .i64 si, .int .i64 sw, .string nm] 66)).alloc (.cells #[.int .i64 ai, .int .i64 aw, .int .i64 bi, .int .i64 bw, .int .i64 ci, .int .i64 cw] 114)).alloc (.cells #[.int .i64 0, .int .i64 0] 64)).cell? ⟨w.heap.size + 1, 2, none⟩ = some (.int .i64 bi) := cell3_1 _ _ _ _ _ 2
  have s3 : (((w.alloc (.cells #[.int .i64 k, .int .i64 pa, .int .i64 pb, .int .i64 pc, .int .i64 n, .int .i64 m, .int .i64 si, .int .i64 sw, .string nm] 66)).alloc (.cells #[.int .i64 ai, .int .i64 aw, .int .i64 bi, .int .i64 bw, .int .i64 ci, .int .i64 cw] 114)).alloc (.cells #[.int .i64 0, .int .i64 0] 64)).cell? ⟨w.heap.size + 1, 3, none⟩ = some (.int .i64 bw) := cell3_1 _ _ _ _ _ 3
  have s4 : (((w.alloc (.cells #[.int .i64 k, .int .i64 pa, .int .i64 pb, .int .i64 pc, .int .i64 n, .int .i64 m, .int .i64 si, .int .i64 sw, .string nm] 66)).alloc (.cells #[.int .i64 ai, .int .i64 aw, .int .i64 bi, .int .i64 bw, .int .i64 ci, .int .i64 cw] 114)).alloc (.cells #[.int .i64 0, .int .i64 0] 64)).cell? ⟨w.heap.size + 1, 4, none⟩ = some (.int .i64 ci) := cell3_1 _ _ _ _ _ 4
  have s5 : (((w.alloc (.cells #[.int .i64 k, .int .i64 pa, .int .i64 pb, .int .i64 pc, .int .i64 n, .int .i64 m, .int .i64 si, .int .i64 sw, .string nm] 66)).alloc (.cells #[.int .i64 ai, .int .i64 aw, .int .i64 bi, .int .i64 bw, .int .i64 ci, .int .i64 cw] 114)).alloc (.cells #[.int .i64 0, .int .i64 0] 64)).cell? ⟨w.heap.size + 1, 5, none⟩ = some (.int .i64 cw) := cell3_1 _ _ _ _ _ 5
  have z0 : (((w.alloc (.cells #[.int .i64 k, .int .i64 pa, .int .i64 pb, .int .i64 pc, .int .i64 n, .int .i64 m, .int .i64 si, .int .i64 sw, .string nm] 66)).alloc (.cells #[.int .i64 ai, .int .i64 aw, .int .i64 bi, .int .i64 bw, .int .i64 ci, .int .i64 cw] 114)).alloc (.cells #[.int .i64 0, .int .i64 0] 64)).cell? ⟨w.heap.size, 0, none⟩ = some (.int .i64 k) := cell3_0 _ _ _ _ _ 0
  have z1 : (((w.alloc (.cells #[.int .i64 k, .int .i64 pa, .int .i64 pb, .int .i64 pc, .int .i64 n, .int .i64 m, .int .i64 si, .int .i64 sw, .string nm] 66)).alloc (.cells #[.int .i64 ai, .int .i64 aw, .int .i64 bi, .int .i64 bw, .int .i64 ci, .int .i64 cw] 114)).alloc (.cells #[.int .i64 0, .int .i64 0] 64)).cell? ⟨w.heap.size, 1, none⟩ = some (.int .i64 pa) := cell3_0 _ _ _ _ _ 1
  have z2 : (((w.alloc (.cells #[.int .i64 k, .int .i64 pa, .int .i64 pb, .int .i64 pc, .int .i64 n, .int .i64 m, .int .i64 si, .int .i64 sw, .string nm] 66)).alloc (.cells #[.int .i64 ai, .int .i64 aw, .int .i64 bi, .int .i64 bw, .int .i64 ci, .int .i64 cw] 114)).alloc (.cells #[.int .i64 0, .int .i64 0] 64)).cell? ⟨w.heap.size, 2, none⟩ = some (.int .i64 pb) := cell3_0 _ _ _ _ _ 2
  have z3 : (((w.alloc (.cells #[.int .i64 k, .int .i64 pa, .int .i64 pb, .int .i64 pc, .int .i64 n, .int .i64 m, .int .i64 si, .int .i64 sw, .string nm] 66)).alloc (.cells #[.int .i64 ai, .int .i64 aw, .int .i64 bi, .int .i64 bw, .int .i64 ci, .int .i64 cw] 114)).alloc (.cells #[.int .i64 0, .int .i64 0] 64)).cell? ⟨w.heap.size, 3, none⟩ = some (.int .i64 pc) := cell3_0 _ _ _ _ _ 3
  have z4 : (((w.alloc (.cells #[.int .i64 k, .int .i64 pa, .int .i64 pb, .int .i64 pc, .int .i64 n, .int .i64 m, .int .i64 si, .int .i64 sw, .string nm] 66)).alloc (.cells #[.int .i64 ai, .int .i64 aw, .int .i64 bi, .int .i64 bw, .int .i64 ci, .int .i64 cw] 114)).alloc (.cells #[.int .i64 0, .int .i64 0] 64)).cell? ⟨w.heap.size, 4, none⟩ = some (.int .i64 n) := cell3_0 _ _ _ _ _ 4
  have z5 : (((w.alloc (.cells #[.int .i64 k, .int .i64 pa, .int .i64 pb, .int .i64 pc, .int .i64 n, .int .i64 m, .int .i64 si, .int .i64 sw, .string nm] 66)).alloc (.cells #[.int .i64 ai, .int .i64 aw, .int .i64 bi, .int .i64 bw, .int .i64 ci, .int .i64 cw] 114)).alloc (.cells #[.int .i64 0, .int .i64 0] 64)).cell? ⟨w.heap.size, 5, none⟩ = some (.int .i64 m) := cell3_0 _ _ _ _ _ 5
  have z6 : (((w.alloc (.cells #[.int .i64 k, .int .i64 pa, .int .i64 pb, .int .i64 pc, .int .i64 n, .int .i64 m, .int .i64 si, .int .i64 sw, .string nm] 66)).alloc (.cells #[.int .i64 ai, .int .i64 aw, .int .i64 bi, .int .i64 bw, .int .i64 ci, .int .i64 cw] 114)).alloc (.cells #[.int .i64 0, .int .i64 0] 64)).cell? ⟨w.heap.size, 6, none⟩ = some (.int .i64 si) := cell3_0 _ _ _ _ _ 6
  have z7 : (((w.alloc (.cells #[.int .i64 k, .int .i64 pa, .int .i64 pb, .int .i64 pc, .int .i64 n, .int .i64 m, .int .i64 si, .int .i64 sw, .string nm] 66)).alloc (.cells #[.int .i64 ai, .int .i64 aw, .int .i64 bi, .int .i64 bw, .int .i64 ci, .int .i64 cw] 114)).alloc (.cells #[.int .i64 0, .int .i64 0] 64)).cell? ⟨w.heap.size, 7, none⟩ = some (.int .i64 sw) := cell3_0 _ _ _ _ _ 7
  have z8 : (((w.alloc (.cells #[.int .i64 k, .int .i64 pa, .int .i64 pb, .int .i64 pc, .int .i64 n, .int .i64 m, .int .i64 si, .int .i64 sw, .string nm] 66)).alloc (.cells #[.int .i64 ai, .int .i64 aw, .int .i64 bi, .int .i64 bw, .int .i64 ci, .int .i64 cw] 114)).alloc (.cells #[.int .i64 0, .int .i64 0] 64)).cell? ⟨w.heap.size, 8, none⟩ = some (.string nm) := cell3_0 _ _ _ _ _ 8
  have r0 : (((w.alloc (.cells #[.int .i64 k, .int .i64 pa, .int .i64 pb, .int .i64 pc, .int .i64 n, .int .i64 m, .int .i64 si, .int .i64 sw, .string nm] 66)).alloc (.cells #[.int .i64 ai, .int .i64 aw, .int .i64 bi, .int .i64 bw, .int .i64 ci, .int .i64 cw] 114)).alloc (.cells #[.int .i64 0, .int .i64 0] 64)).cell? ⟨w.heap.size + 1 + 1, 0, none⟩ = some (.int .i64 0) := cell3_2 _ _ _ _ _ 0
  have f0 : (((w.alloc (.cells #[.int .i64 k, .int .i64 pa, .int .i64 pb, .int .i64 pc, .int .i64 n, .int .i64 m, .int .i64 si, .int .i64 sw, .string nm] 66)).alloc (.cells #[.int .i64 ai, .int .i64 aw, .int .i64 bi, .int .i64 bw, .int .i64 ci, .int .i64 cw] 114)).alloc (.cells #[.int .i64 0, .int .i64 0] 64)).frozen? ⟨w.heap.size + 1 + 1, 0, none⟩ = false := cell3_0f _ _ _ _ _ 0
  have r1 : (((w.alloc (.cells #[.int .i64 k, .int .i64 pa, .int .i64 pb, .int .i64 pc, .int .i64 n, .int .i64 m, .int .i64 si, .int .i64 sw, .string nm] 66)).alloc (.cells #[.int .i64 ai, .int .i64 aw, .int .i64 bi, .int .i64 bw, .int .i64 ci, .int .i64 cw] 114)).alloc (.cells #[.int .i64 0, .int .i64 0] 64)).cell? ⟨w.heap.size + 1 + 1, 1, none⟩ = some (.int .i64 0) := cell3_2 _ _ _ _ _ 1
  have f1 : (((w.alloc (.cells #[.int .i64 k, .int .i64 pa, .int .i64 pb, .int .i64 pc, .int .i64 n, .int .i64 m, .int .i64 si, .int .i64 sw, .string nm] 66)).alloc (.cells #[.int .i64 ai, .int .i64 aw, .int .i64 bi, .int .i64 bw, .int .i64 ci, .int .i64 cw] 114)).alloc (.cells #[.int .i64 0, .int .i64 0] 64)).frozen? ⟨w.heap.size + 1 + 1, 1, none⟩ = false := cell3_0f _ _ _ _ _ 1
  have hb0 : Below w.heap.size w (((w.alloc (.cells #[.int .i64 k, .int .i64 pa, .int .i64 pb, .int .i64 pc, .int .i64 n, .int .i64 m, .int .i64 si, .int .i64 sw, .string nm] 66)).alloc (.cells #[.int .i64 ai, .int .i64 aw, .int .i64 bi, .int .i64 bw, .int .i64 ci, .int .i64 cw] 114)).alloc (.cells #[.int .i64 0, .int .i64 0] 64)) := by go_grown
  go_enter Tryz.func97, Tryz.ntmps97
  go_upto_region 1 with fail
  have hsz : w.heap.size + 3 = (((w.alloc (.cells #[.int .i64 k, .int .i64 pa, .int .i64 pb, .int .i64 pc, .int .i64 n, .int .i64 m, .int .i64 si, .int .i64 sw, .string nm] 66)).alloc (.cells #[.int .i64 ai, .int .i64 aw, .int .i64 bi, .int .i64 bw, .int .i64 ci, .int .i64 cw] 114)).alloc (.cells #[.int .i64 0, .int .i64 0] 64)).heap.size := (size3 _ _ _ _).symm
  generalize hW : (((w.alloc (.cells #[.int .i64 k, .int .i64 pa, .int .i64 pb, .int .i64 pc, .int .i64 n, .int .i64 m, .int .i64 si, .int .i64 sw, .string nm] 66)).alloc (.cells #[.int .i64 ai, .int .i64 aw, .int .i64 bi, .int .i64 bw, .int .i64 ci, .int .i64 cw] 114)).alloc (.cells #[.int .i64 0, .int .i64 0] 64)) = W at s0 s1 s2 s3 s4 s5 z0 z1 z2 z3 z4 z5 z6 z7 z8 r0 r1 f0 f1 hb0 hsz ⊢
  have HW := Go.Lib.hid hW
  have HSZ := Go.Lib.hid hsz
  have hl1 : w.heap.size + 1 < W.heap.size := by omega
  clear hW hsz
  go_cut [6, 7, 8] (fun s6 s7 s8 wx => CutR W.heap.size W ai aw bi bw ci cw s6 s7 s8 wx)
  case first =>
    go_region_held3 (fun w' => w'.cell? ⟨w.heap.size + 1, 0, none⟩ = some (.int .i64 ai) ∧ w'.cell? ⟨w.heap.size + 1, 1, none⟩ = some (.int .i64 aw) ∧ w'.cell? ⟨w.heap.size + 1, 2, none⟩ = some (.int .i64 bi) ∧ w'.cell? ⟨w.heap.size + 1, 3, none⟩ = some (.int .i64 bw) ∧ w'.cell? ⟨w.heap.size + 1, 4, none⟩ = some (.int .i64 ci) ∧ w'.cell? ⟨w.heap.size + 1, 5, none⟩ = some (.int .i64 cw)) (exact ⟨keepc (by go_grown) hl1 s0, keepc (by go_grown) hl1 s1, keepc (by go_grown) hl1 s2, keepc (by go_grown) hl1 s3, keepc (by go_grown) hl1 s4, keepc (by go_grown) hl1 s5⟩) (fail)
    all_goals
      go_wp2_with fail
      go_meet
      refine ⟨_, _, _, rfl, rfl, rfl, ?_, ?_, ?_, ?_, ?_, ?_, ?_, ?_, ?_, ?_⟩
      all_goals first | (simp; done) | (simp; omega) | exact cell3_0 _ _ _ _ _ _ | exact cell3_1 _ _ _ _ _ _ | exact cell3_2 _ _ _ _ _ _ | (go_grown; done)
  case rest =>
    obtain ⟨g6, g7, g8, rfl, rfl, rfl, ⟨n6, l6⟩, ⟨n7, l7⟩, ⟨n8, l8⟩, a0, a1, b0, b1, c0, c1, hB⟩ := hcut
    clear s0 s1 s2 s3 s4 s5
    have hbw : Below w.heap.size w wc := bstep hb0 (Nat.le_refl _) hB
    have hl : w.heap.size + 1 + 1 < W.heap.size := by have := HSZ.out; omega
    have hlw : w.heap.size + 1 + 1 < wc.heap.size := Nat.lt_of_lt_of_le hl hB.size
    have hl0 : w.heap.size < wc.heap.size := by omega
    have y0 := (hB.cell (p := ⟨w.heap.size, 0, none⟩) (by show w.heap.size < _; omega)).trans z0
    have y1 := (hB.cell (p := ⟨w.heap.size, 1, none⟩) (by show w.heap.size < _; omega)).trans z1
    have y2 := (hB.cell (p := ⟨w.heap.size, 2, none⟩) (by show w.heap.size < _; omega)).trans z2
    have y3 := (hB.cell (p := ⟨w.heap.size, 3, none⟩) (by show w.heap.size < _; omega)).trans z3
    have y4 := (hB.cell (p := ⟨w.heap.size, 4, none⟩) (by show w.heap.size < _; omega)).trans z4
    have y5 := (hB.cell (p := ⟨w.heap.size, 5, none⟩) (by show w.heap.size < _; omega)).trans z5
    have y6 := (hB.cell (p := ⟨w.heap.size, 6, none⟩) (by show w.heap.size < _; omega)).trans z6
    have y7 := (hB.cell (p := ⟨w.heap.size, 7, none⟩) (by show w.heap.size < _; omega)).trans z7
    have y8 := (hB.cell (p := ⟨w.heap.size, 8, none⟩) (by show w.heap.size < _; omega)).trans z8
    have x0 := (hB.cell (p := ⟨w.heap.size + 1 + 1, 0, none⟩) hl).trans r0
    have x1 := (hB.cell (p := ⟨w.heap.size + 1 + 1, 1, none⟩) hl).trans r1
    have v0 := (hB.frozen (p := ⟨w.heap.size + 1 + 1, 0, none⟩) hl).trans f0
    have v1 := (hB.frozen (p := ⟨w.heap.size + 1 + 1, 1, none⟩) hl).trans f1
    have e6 : g6 ≠ w.heap.size + 1 + 1 := by omega
    have e7 : g7 ≠ w.heap.size + 1 + 1 := by omega
    have e8 : g8 ≠ w.heap.size + 1 + 1 := by omega
    have e0 : w.heap.size ≠ w.heap.size + 1 + 1 := by omega
    clear z0 z1 z2 z3 z4 z5 z6 z7 z8 r0 r1 f0 f1 hb0 hB HW HSZ hl n6 n7 n8 hl1
    by_cases hok : (kWidth ⟨k, pa, pb, pc, n, m, si, sw, nm⟩ aw bw).2 = true
    · have HOK := Go.Lib.hid hok
      by_cases h1 : ai = 0
      · subst h1
        by_cases h2 : bi = 0
        · subst h2
          go_wp2_with fail
          refine (c_kindWidth ⟨k, pa, pb, pc, n, m, si, sw, nm⟩ HK1.out HK2.out _ _ _).mono ?_; rintro e w5 ⟨rfl, hB5⟩; have hS5 : Sav (w.heap.size + 1 + 1) wc w5 := Sav.below (by (repeat' (first | (with_reducible exact Sav.refl _ _) | (with_reducible assumption) | (with_reducible refine Sav.drew ?_) | (with_reducible refine Sav.alloc ?_ _) | (with_reducible refine Sav.set ?_ _ _)))) hB5; have hb5 : Below w.heap.size w w5 := bstep (by go_grown) (Nat.le_refl _) hB5; have hcc5 : Below wc.heap.size wc w5 := bstep (by go_grown) (Nat.le_refl _) hB5; have hl5 : w.heap.size + 1 + 1 < w5.heap.size := Nat.lt_of_lt_of_le hlw hcc5.size; have x50 := (hcc5.cell (p := ⟨w.heap.size + 1 + 1, 0, none⟩) hlw).trans x0; have x51 := (hcc5.cell (p := ⟨w.heap.size + 1 + 1, 1, none⟩) hlw).trans x1; have v50 := (hcc5.frozen (p := ⟨w.heap.size + 1 + 1, 0, none⟩) hlw).trans v0; have v51 := (hcc5.frozen (p := ⟨w.heap.size + 1 + 1, 1, none⟩) hlw).trans v1
          clear hB5
          go_wp2_with fail
          refine wp_region_held_drew (S := (fun w' => w'.cell? ⟨g6, 0, none⟩ = some (.int .i64 0) ∧ w'.cell? ⟨g7, 0, none⟩ = some (.int .i64 0))) (by kernel_rfl) ?_ (fun hHeld => ?_)
          · exact ⟨savc (by (repeat' (first | (with_reducible exact Sav.refl _ _) | (with_reducible assumption) | (with_reducible refine Sav.drew ?_) | (with_reducible refine Sav.alloc ?_ _) | (with_reducible refine Sav.set ?_ _ _)))) l6 e6 a0, savc (by (repeat' (first | (with_reducible exact Sav.refl _ _) | (with_reducible assumption) | (with_reducible refine Sav.drew ?_) | (with_reducible refine Sav.alloc ?_ _) | (with_reducible refine Sav.set ?_ _ _)))) l7 e7 b0⟩
          refine tL 0 (some 90) ?_
          refine tL 2 (some 92) ?_
          refine wpAnyH_ready (rs := [1]) (by kernel_rfl) (by simp) ?_
          refine AllReadyH.cons (o := _) rfl (fun K hK => ?_) AllReadyH.nil
          go_simp
          refine (c_wordSort _ _).mono ?_; rintro e w4 ⟨rfl, rfl⟩
          (try go_wp2_with fail)
          refine hK.out _ _ ?_ (fun hHeld => ?_)
          · exact ⟨savc (by (repeat' (first | (with_reducible exact Sav.refl _ _) | (with_reducible assumption) | (with_reducible refine Sav.drew ?_) | (with_reducible refine Sav.alloc ?_ _) | (with_reducible refine Sav.set ?_ _ _)))) l6 e6 a0, savc (by (repeat' (first | (with_reducible exact Sav.refl _ _) | (with_reducible assumption) | (with_reducible refine Sav.drew ?_) | (with_reducible refine Sav.alloc ?_ _) | (with_reducible refine Sav.set ?_ _ _)))) l7 e7 b0⟩
          clear hK K
          (try simp only [Act.put, List.setIfInBounds_toArray, List.set_cons_zero, List.set_cons_succ])
          refine tL 3 (some 93) ?_
          refine tL 4 (some 94) ?_
          refine tL 5 (some 95) ?_
          refine tL 6 (some 96) ?_
          refine tL 7 (some 97) ?_
          refine tL 8 (some 98) ?_
          refine tL 9 (some 99) ?_
          refine tL 10 (some 100) ?_
          refine tL 11 (some 101) ?_
          refine tL 12 (some 102) ?_
          refine wpAnyH_ready (rs := [13]) (by kernel_rfl) (by simp) ?_
          refine AllReadyH.cons (o := _) rfl (fun K hK => ?_) AllReadyH.nil
          go_simp
          refine hK.out _ _ ?_ (fun hHeld => ?_)
          · exact ⟨savc (by (repeat' (first | (with_reducible exact Sav.refl _ _) | (with_reducible assumption) | (with_reducible refine Sav.drew ?_) | (with_reducible refine Sav.alloc ?_ _) | (with_reducible refine Sav.set ?_ _ _)))) l6 e6 a0, savc (by (repeat' (first | (with_reducible exact Sav.refl _ _) | (with_reducible assumption) | (with_reducible refine Sav.drew ?_) | (with_reducible refine Sav.alloc ?_ _) | (with_reducible refine Sav.set ?_ _ _)))) l7 e7 b0⟩
          clear hK K
          (try simp only [Act.put, List.setIfInBounds_toArray, List.set_cons_zero, List.set_cons_succ])
          refine tL 14 (some 5) ?_
          refine wpAnyH_done (by kernel_rfl) ?_ _
          go_wp2
          refine bodyPost_ret (v := .tuple #[.agg #[.int .i64 0, .int .i64 (kWidth ⟨k, pa, pb, pc, n, m, si, sw, nm⟩ aw bw).1], .bool true]) (by simp [results, Tryz.results97, go_sem, x50, x51, hl5]) rfl ?_
          exact res_yes ((kOk_words HWK.out _ _ _).mpr ⟨HOK.out, rfl, rfl⟩) (kSort_words (x := ⟨k, pa, pb, pc, n, m, si, sw, nm⟩) HWK.out (0, aw) (0, bw) (ci, cw)).symm (by go_grown)
        · have q : (bi == 0) = false := by simpa using h2
          go_wp2_with fail
          refine (c_kindWidth ⟨k, pa, pb, pc, n, m, si, sw, nm⟩ HK1.out HK2.out _ _ _).mono ?_; rintro e w5 ⟨rfl, hB5⟩; have hS5 : Sav (w.heap.size + 1 + 1) wc w5 := Sav.below (by (repeat' (first | (with_reducible exact Sav.refl _ _) | (with_reducible assumption) | (with_reducible refine Sav.drew ?_) | (with_reducible refine Sav.alloc ?_ _) | (with_reducible refine Sav.set ?_ _ _)))) hB5; have hb5 : Below w.heap.size w w5 := bstep (by go_grown) (Nat.le_refl _) hB5; have hcc5 : Below wc.heap.size wc w5 := bstep (by go_grown) (Nat.le_refl _) hB5; have hl5 : w.heap.size + 1 + 1 < w5.heap.size := Nat.lt_of_lt_of_le hlw hcc5.size; have x50 := (hcc5.cell (p := ⟨w.heap.size + 1 + 1, 0, none⟩) hlw).trans x0; have x51 := (hcc5.cell (p := ⟨w.heap.size + 1 + 1, 1, none⟩) hlw).trans x1; have v50 := (hcc5.frozen (p := ⟨w.heap.size + 1 + 1, 0, none⟩) hlw).trans v0; have v51 := (hcc5.frozen (p := ⟨w.heap.size + 1 + 1, 1, none⟩) hlw).trans v1
          clear hB5
          go_wp2_with fail
          refine wp_region_held_drew (S := (fun w' => w'.cell? ⟨g6, 0, none⟩ = some (.int .i64 0) ∧ w'.cell? ⟨g7, 0, none⟩ = some (.int .i64 bi))) (by kernel_rfl) ?_ (fun hHeld => ?_)
          · exact ⟨savc (by (repeat' (first | (with_reducible exact Sav.refl _ _) | (with_reducible assumption) | (with_reducible refine Sav.drew ?_) | (with_reducible refine Sav.alloc ?_ _) | (with_reducible refine Sav.set ?_ _ _)))) l6 e6 a0, savc (by (repeat' (first | (with_reducible exact Sav.refl _ _) | (with_reducible assumption) | (with_reducible refine Sav.drew ?_) | (with_reducible refine Sav.alloc ?_ _) | (with_reducible refine Sav.set ?_ _ _)))) l7 e7 b0⟩
          refine tL 0 (some 90) ?_
          refine tL 2 (some 92) ?_
          refine wpAnyH_ready (rs := [1]) (by kernel_rfl) (by simp) ?_
          refine AllReadyH.cons (o := _) rfl (fun K hK => ?_) AllReadyH.nil
          go_simp
          refine (c_wordSort _ _).mono ?_; rintro e w4 ⟨rfl, rfl⟩
          (try go_wp2_with fail)
          refine hK.out _ _ ?_ (fun hHeld => ?_)
          · exact ⟨savc (by (repeat' (first | (with_reducible exact Sav.refl _ _) | (with_reducible assumption) | (with_reducible refine Sav.drew ?_) | (with_reducible refine Sav.alloc ?_ _) | (with_reducible refine Sav.set ?_ _ _)))) l6 e6 a0, savc (by (repeat' (first | (with_reducible exact Sav.refl _ _) | (with_reducible assumption) | (with_reducible refine Sav.drew ?_) | (with_reducible refine Sav.alloc ?_ _) | (with_reducible refine Sav.set ?_ _ _)))) l7 e7 b0⟩
          clear hK K
          (try simp only [Act.put, List.setIfInBounds_toArray, List.set_cons_zero, List.set_cons_succ])
          refine tL 3 (some 93) ?_
          refine tL 4 (some 94) ?_
          refine tL 5 (some 95) ?_
          refine tL 6 (some 96) ?_
          refine tL 7 (some 97) ?_
          refine tL 8 (some 98) ?_
          refine tL 9 (some 99) ?_
          refine tL 10 (some 100) ?_
          refine tL 11 (some 101) ?_
          refine tL 12 (some 102) ?_
          refine wpAnyH_ready (rs := [13]) (by kernel_rfl) (by simp) ?_
          refine AllReadyH.cons (o := _) rfl (fun K hK => ?_) AllReadyH.nil
          go_simp
          refine hK.out _ _ ?_ (fun hHeld => ?_)
          · exact ⟨savc (by (repeat' (first | (with_reducible exact Sav.refl _ _) | (with_reducible assumption) | (with_reducible refine Sav.drew ?_) | (with_reducible refine Sav.alloc ?_ _) | (with_reducible refine Sav.set ?_ _ _)))) l6 e6 a0, savc (by (repeat' (first | (with_reducible exact Sav.refl _ _) | (with_reducible assumption) | (with_reducible refine Sav.drew ?_) | (with_reducible refine Sav.alloc ?_ _) | (with_reducible refine Sav.set ?_ _ _)))) l7 e7 b0⟩
          clear hK K
          (try simp only [Act.put, List.setIfInBounds_toArray, List.set_cons_zero, List.set_cons_succ])
          refine tL 14 (some 5) ?_
          refine wpAnyH_done (by kernel_rfl) ?_ _
          go_wp2
          refine bodyPost_ret (v := .tuple #[.agg #[.int .i64 0, .int .i64 (kWidth ⟨k, pa, pb, pc, n, m, si, sw, nm⟩ aw bw).1], .bool false]) (by simp [results, Tryz.results97, go_sem, x50, x51, hl5]) rfl ?_
          exact res_no (fun h => h2 ((kOk_words HWK.out _ _ _).mp h).2.2) (by go_grown)
      · have q : (ai == 0) = false := by simpa using h1
        go_wp2_with fail
        refine (c_kindWidth ⟨k, pa, pb, pc, n, m, si, sw, nm⟩ HK1.out HK2.out _ _ _).mono ?_; rintro e w5 ⟨rfl, hB5⟩; have hS5 : Sav (w.heap.size + 1 + 1) wc w5 := Sav.below (by (repeat' (first | (with_reducible exact Sav.refl _ _) | (with_reducible assumption) | (with_reducible refine Sav.drew ?_) | (with_reducible refine Sav.alloc ?_ _) | (with_reducible refine Sav.set ?_ _ _)))) hB5; have hb5 : Below w.heap.size w w5 := bstep (by go_grown) (Nat.le_refl _) hB5; have hcc5 : Below wc.heap.size wc w5 := bstep (by go_grown) (Nat.le_refl _) hB5; have hl5 : w.heap.size + 1 + 1 < w5.heap.size := Nat.lt_of_lt_of_le hlw hcc5.size; have x50 := (hcc5.cell (p := ⟨w.heap.size + 1 + 1, 0, none⟩) hlw).trans x0; have x51 := (hcc5.cell (p := ⟨w.heap.size + 1 + 1, 1, none⟩) hlw).trans x1; have v50 := (hcc5.frozen (p := ⟨w.heap.size + 1 + 1, 0, none⟩) hlw).trans v0; have v51 := (hcc5.frozen (p := ⟨w.heap.size + 1 + 1, 1, none⟩) hlw).trans v1
        clear hB5
        go_wp2_with fail
        refine wp_region_held_drew (S := (fun w' => w'.cell? ⟨g6, 0, none⟩ = some (.int .i64 ai) ∧ w'.cell? ⟨g7, 0, none⟩ = some (.int .i64 bi))) (by kernel_rfl) ?_ (fun hHeld => ?_)
        · exact ⟨savc (by (repeat' (first | (with_reducible exact Sav.refl _ _) | (with_reducible assumption) | (with_reducible refine Sav.drew ?_) | (with_reducible refine Sav.alloc ?_ _) | (with_reducible refine Sav.set ?_ _ _)))) l6 e6 a0, savc (by (repeat' (first | (with_reducible exact Sav.refl _ _) | (with_reducible assumption) | (with_reducible refine Sav.drew ?_) | (with_reducible refine Sav.alloc ?_ _) | (with_reducible refine Sav.set ?_ _ _)))) l7 e7 b0⟩
        refine tL 0 (some 90) ?_
        refine tL 2 (some 92) ?_
        refine wpAnyH_ready (rs := [1]) (by kernel_rfl) (by simp) ?_
        refine AllReadyH.cons (o := _) rfl (fun K hK => ?_) AllReadyH.nil
        go_simp
        refine (c_wordSort _ _).mono ?_; rintro e w4 ⟨rfl, rfl⟩
        (try go_wp2_with fail)
        refine hK.out _ _ ?_ (fun hHeld => ?_)
        · exact ⟨savc (by (repeat' (first | (with_reducible exact Sav.refl _ _) | (with_reducible assumption) | (with_reducible refine Sav.drew ?_) | (with_reducible refine Sav.alloc ?_ _) | (with_reducible refine Sav.set ?_ _ _)))) l6 e6 a0, savc (by (repeat' (first | (with_reducible exact Sav.refl _ _) | (with_reducible assumption) | (with_reducible refine Sav.drew ?_) | (with_reducible refine Sav.alloc ?_ _) | (with_reducible refine Sav.set ?_ _ _)))) l7 e7 b0⟩
        clear hK K
        (try simp only [Act.put, List.setIfInBounds_toArray, List.set_cons_zero, List.set_cons_succ])
        refine tL 3 (some 93) ?_
        refine tL 4 (some 94) ?_
        refine tL 5 (some 95) ?_
        refine tL 6 (some 96) ?_
        refine tL 7 (some 97) ?_
        refine tL 8 (some 98) ?_
        refine tU 9 (some 99) ?_
        refine tU 10 (some 100) ?_
        refine tU 11 (some 101) ?_
        refine tL 12 (some 102) ?_
        refine wpAnyH_ready (rs := [13]) (by kernel_rfl) (by simp) ?_
        refine AllReadyH.cons (o := _) rfl (fun K hK => ?_) AllReadyH.nil
        go_simp
        refine hK.out _ _ ?_ (fun hHeld => ?_)
        · exact ⟨savc (by (repeat' (first | (with_reducible exact Sav.refl _ _) | (with_reducible assumption) | (with_reducible refine Sav.drew ?_) | (with_reducible refine Sav.alloc ?_ _) | (with_reducible refine Sav.set ?_ _ _)))) l6 e6 a0, savc (by (repeat' (first | (with_reducible exact Sav.refl _ _) | (with_reducible assumption) | (with_reducible refine Sav.drew ?_) | (with_reducible refine Sav.alloc ?_ _) | (with_reducible refine Sav.set ?_ _ _)))) l7 e7 b0⟩
        clear hK K
        (try simp only [Act.put, List.setIfInBounds_toArray, List.set_cons_zero, List.set_cons_succ])
        refine tL 14 (some 5) ?_
        refine wpAnyH_done (by kernel_rfl) ?_ _
        go_wp2
        refine bodyPost_ret (v := .tuple #[.agg #[.int .i64 0, .int .i64 (kWidth ⟨k, pa, pb, pc, n, m, si, sw, nm⟩ aw bw).1], .bool false]) (by simp [results, Tryz.results97, go_sem, x50, x51, hl5]) rfl ?_
        exact res_no (fun h => h1 ((kOk_words HWK.out _ _ _).mp h).2.1) (by go_grown)
    · have hok' : (kWidth ⟨k, pa, pb, pc, n, m, si, sw, nm⟩ aw bw).2 = false := by simpa using hok
      have HOK := Go.Lib.hid hok
      clear hok
      go_wp2_with fail
      refine (c_kindWidth ⟨k, pa, pb, pc, n, m, si, sw, nm⟩ HK1.out HK2.out _ _ _).mono ?_; rintro e w5 ⟨rfl, hB5⟩; have hS5 : Sav (w.heap.size + 1 + 1) wc w5 := Sav.below (by (repeat' (first | (with_reducible exact Sav.refl _ _) | (with_reducible assumption) | (with_reducible refine Sav.drew ?_) | (with_reducible refine Sav.alloc ?_ _) | (with_reducible refine Sav.set ?_ _ _)))) hB5; have hb5 : Below w.heap.size w w5 := bstep (by go_grown) (Nat.le_refl _) hB5; have hcc5 : Below wc.heap.size wc w5 := bstep (by go_grown) (Nat.le_refl _) hB5; have hl5 : w.heap.size + 1 + 1 < w5.heap.size := Nat.lt_of_lt_of_le hlw hcc5.size; have x50 := (hcc5.cell (p := ⟨w.heap.size + 1 + 1, 0, none⟩) hlw).trans x0; have x51 := (hcc5.cell (p := ⟨w.heap.size + 1 + 1, 1, none⟩) hlw).trans x1; have v50 := (hcc5.frozen (p := ⟨w.heap.size + 1 + 1, 0, none⟩) hlw).trans v0; have v51 := (hcc5.frozen (p := ⟨w.heap.size + 1 + 1, 1, none⟩) hlw).trans v1
      clear hB5
      go_wp2_with fail
      refine wp_region_held_drew (S := (fun w' => w'.cell? ⟨g6, 0, none⟩ = some (.int .i64 ai) ∧ w'.cell? ⟨g7, 0, none⟩ = some (.int .i64 bi))) (by kernel_rfl) ?_ (fun hHeld => ?_)
      · exact ⟨savc (by (repeat' (first | (with_reducible exact Sav.refl _ _) | (with_reducible assumption) | (with_reducible refine Sav.drew ?_) | (with_reducible refine Sav.alloc ?_ _) | (with_reducible refine Sav.set ?_ _ _)))) l6 e6 a0, savc (by (repeat' (first | (with_reducible exact Sav.refl _ _) | (with_reducible assumption) | (with_reducible refine Sav.drew ?_) | (with_reducible refine Sav.alloc ?_ _) | (with_reducible refine Sav.set ?_ _ _)))) l7 e7 b0⟩
      refine tL 0 (some 90) ?_
      refine tL 2 (some 92) ?_
      refine wpAnyH_ready (rs := [1]) (by kernel_rfl) (by simp) ?_
      refine AllReadyH.cons (o := _) rfl (fun K hK => ?_) AllReadyH.nil
      go_simp
      refine (c_wordSort _ _).mono ?_; rintro e w4 ⟨rfl, rfl⟩
      (try go_wp2_with fail)
      refine hK.out _ _ ?_ (fun hHeld => ?_)
      · exact ⟨savc (by (repeat' (first | (with_reducible exact Sav.refl _ _) | (with_reducible assumption) | (with_reducible refine Sav.drew ?_) | (with_reducible refine Sav.alloc ?_ _) | (with_reducible refine Sav.set ?_ _ _)))) l6 e6 a0, savc (by (repeat' (first | (with_reducible exact Sav.refl _ _) | (with_reducible assumption) | (with_reducible refine Sav.drew ?_) | (with_reducible refine Sav.alloc ?_ _) | (with_reducible refine Sav.set ?_ _ _)))) l7 e7 b0⟩
      clear hK K
      (try simp only [Act.put, List.setIfInBounds_toArray, List.set_cons_zero, List.set_cons_succ])
      refine tL 3 (some 93) ?_
      refine tU 4 (some 94) ?_
      refine tU 5 (some 95) ?_
      refine tU 6 (some 96) ?_
      refine tL 7 (some 97) ?_
      refine tL 8 (some 98) ?_
      refine tU 9 (some 99) ?_
      refine tU 10 (some 100) ?_
      refine tU 11 (some 101) ?_
      refine tL 12 (some 102) ?_
      refine wpAnyH_ready (rs := [13]) (by kernel_rfl) (by simp) ?_
      refine AllReadyH.cons (o := _) rfl (fun K hK => ?_) AllReadyH.nil
      go_simp
      refine hK.out _ _ ?_ (fun hHeld => ?_)
      · exact ⟨savc (by (repeat' (first | (with_reducible exact Sav.refl _ _) | (with_reducible assumption) | (with_reducible refine Sav.drew ?_) | (with_reducible refine Sav.alloc ?_ _) | (with_reducible refine Sav.set ?_ _ _)))) l6 e6 a0, savc (by (repeat' (first | (with_reducible exact Sav.refl _ _) | (with_reducible assumption) | (with_reducible refine Sav.drew ?_) | (with_reducible refine Sav.alloc ?_ _) | (with_reducible refine Sav.set ?_ _ _)))) l7 e7 b0⟩
      clear hK K
      (try simp only [Act.put, List.setIfInBounds_toArray, List.set_cons_zero, List.set_cons_succ])
      refine tL 14 (some 5) ?_
      refine wpAnyH_done (by kernel_rfl) ?_ _
      go_wp2
      refine bodyPost_ret (v := .tuple #[.agg #[.int .i64 0, .int .i64 (kWidth ⟨k, pa, pb, pc, n, m, si, sw, nm⟩ aw bw).1], .bool false]) (by simp [results, Tryz.results97, go_sem, x50, x51, hl5]) rfl ?_
      exact res_no (fun h => HOK.out ((kOk_words HWK.out _ _ _).mp h).1) (by go_grown)
end Go.Proofs.YtbkcecilbpngcaaGreat
