/-
  The sort of a node by those of its parts: the model, the kinds whose parts are words.
-/
import Derived.Test.YtbkcecilbpngcaaGreatRows
import Derived.Test.YtbkcecilbpngcaaGreatPaA
import Derived.Test.YtbkcecilbpngcaaGreatNodeM
import Derived.Test.YtbkcecilbpngcaaGreatTwo
import Derived.Test.YtbkcecilbpngcaaGreatResP
import Derived.WalkKit
import Derived.ProofKit
import Derived.OpenShut
import Derived.WalkSpells
import Derived.WalkLawsBesides
import Derived.Outline
import Derived.BigQuiet
import Derived.Handy
import Derived.LoopTactic
import Derived.Deep.Light
import Derived.Deep.RegionWith
import Derived.Deep.RegionHeld3
import Derived.Deep.QuietTactic
namespace Go.Proofs.YtbkcecilbpngcaaGreat
open Go.ChangeShapes Go.WideShapes Go.ChangeAt Go.RowKit
set_option linter.unusedVariables false

set_option maxRecDepth 100000 in
set_option maxHeartbeats 4000000 in
theorem c_res29 (x : ND) (hk : x.kind = 29) (a : Int × Int) (b : Int × Int) (ha : 0 ≤ a.1) (hb : 0 ≤ b.1) (g cap : Nat) (w : World) (h : SortsAt w g [a, b]) :
    Calls Tryz.prog 90 #[.agg x.cells.toArray, .slice (some ⟨g, 0, none⟩) 2 cap] w (ResP x a b (0, 0) w) := by
  obtain ⟨hg, h⟩ := h
  obtain ⟨a0, a1⟩ := h 0 (by simp)
  obtain ⟨b0, b1⟩ := h 1 (by simp)
  simp at a0 a1 b0 b1
  clear h
  have hwk0 : WK x.kind := by rw [hk]; unfold WK; decide
  have hwk : Hid (WK x.kind) := hwk0
  clear hwk0
  obtain ⟨k, pa, pb, pc, n, m, si, sw, nm⟩ := x
  simp only [ND.cells] at *
  subst hk
  obtain ⟨ai, aw⟩ := a
  obtain ⟨bi, bw⟩ := b
  simp only at *
  by_cases h1 : 0 < ai
  · go_enter Tryz.func90, Tryz.ntmps90
    go_wp2_with fail
    go_rounds 3
    refine bodyPost_ret (v := .tuple #[.agg #[.int .i64 0, .int .i64 0], .bool false]) (by simp [results, Tryz.results90, go_sem]) rfl ?_
    exact res_arr hwk.out (.inl h1) (by (repeat' (first | (with_reducible exact Below.refl _ _) | (with_reducible refine Below.alloc ?_ ?_ _) | (with_reducible refine bd ?_) | (with_reducible refine Below.drew ?_) | (with_reducible refine Below.setCell ?_ ?_ _) | go_size | (simp [World.drewN]; omega))))
  · have q : decide (0 < ai) = false := by simpa using h1
    have za : ai = 0 := by omega
    have Za : Hid (ai = 0) := za
    clear za
    by_cases h2 : 0 < bi
    · go_enter Tryz.func90, Tryz.ntmps90
      go_wp2_with fail
      go_rounds 3
      refine bodyPost_ret (v := .tuple #[.agg #[.int .i64 0, .int .i64 0], .bool false]) (by simp [results, Tryz.results90, go_sem]) rfl ?_
      exact res_arr hwk.out (.inr h2) (by (repeat' (first | (with_reducible exact Below.refl _ _) | (with_reducible refine Below.alloc ?_ ?_ _) | (with_reducible refine bd ?_) | (with_reducible refine Below.drew ?_) | (with_reducible refine Below.setCell ?_ ?_ _) | go_size | (simp [World.drewN]; omega))))
    · have q2 : decide (0 < bi) = false := by simpa using h2
      have zb : bi = 0 := by omega
      have Zb : Hid (bi = 0) := zb
      clear zb
      go_enter Tryz.func90, Tryz.ntmps90
      go_wp2_with fail
      go_rounds 3
      go_quiet ((go_at_call 110; exact Calls.quiet_of_same (c_WordJoinS _ _ _ _ _)))
      go_wp2_with (go_at_call 60; refine (c_l2Word _ _).mono ?_; rintro e w' ⟨rfl, rfl⟩)
      refine bodyPost_ret (v := .tuple #[.agg #[.int .i64 0, .int .i64 (joinR aw 0 bw 0).2.1], .bool (joinR aw 0 bw 0).2.2]) (by simp [results, Tryz.results90, go_sem]) rfl ?_
      exact res_w hwk.out Za.out Zb.out (fun _ => by simp [kWidth]) (by simp [kWidth]) (by (repeat' (first | (with_reducible exact Below.refl _ _) | (with_reducible refine Below.alloc ?_ ?_ _) | (with_reducible refine bd ?_) | (with_reducible refine Below.drew ?_) | (with_reducible refine Below.setCell ?_ ?_ _) | go_size | (simp [World.drewN]; omega))))
set_option maxRecDepth 100000 in
set_option maxHeartbeats 4000000 in
theorem c_res30 (x : ND) (hk : x.kind = 30) (a : Int × Int) (ha : 0 ≤ a.1) (g cap : Nat) (w : World) (h : SortsAt w g [a]) :
    Calls Tryz.prog 90 #[.agg x.cells.toArray, .slice (some ⟨g, 0, none⟩) 1 cap] w (ResP x a (0, 0) (0, 0) w) := by
  obtain ⟨hg, h⟩ := h
  obtain ⟨a0, a1⟩ := h 0 (by simp)
  simp at a0 a1
  clear h
  have hwk0 : WK x.kind := by rw [hk]; unfold WK; decide
  have hwk : Hid (WK x.kind) := hwk0
  clear hwk0
  obtain ⟨k, pa, pb, pc, n, m, si, sw, nm⟩ := x
  simp only [ND.cells] at *
  subst hk
  obtain ⟨ai, aw⟩ := a
  simp only at *
  by_cases h1 : 0 < ai
  · go_enter Tryz.func90, Tryz.ntmps90
    go_wp2_with fail
    go_rounds 3
    refine bodyPost_ret (v := .tuple #[.agg #[.int .i64 0, .int .i64 0], .bool false]) (by simp [results, Tryz.results90, go_sem]) rfl ?_
    exact res_arr hwk.out (.inl h1) (by (repeat' (first | (with_reducible exact Below.refl _ _) | (with_reducible refine Below.alloc ?_ ?_ _) | (with_reducible refine bd ?_) | (with_reducible refine Below.drew ?_) | (with_reducible refine Below.setCell ?_ ?_ _) | go_size | (simp [World.drewN]; omega))))
  · have q : decide (0 < ai) = false := by simpa using h1
    have za : ai = 0 := by omega
    have Za : Hid (ai = 0) := za
    clear za
    go_enter Tryz.func90, Tryz.ntmps90
    go_wp2_with fail
    go_rounds 3
    go_quiet ((go_at_call 111; exact Calls.quiet_of_same (c_WordSliceS _ _ _ _ _)))
    go_wp2_with (go_at_call 60; refine (c_l2Word _ _).mono ?_; rintro e w' ⟨rfl, rfl⟩)
    refine bodyPost_ret (v := .tuple #[.agg #[.int .i64 0, .int .i64 (sliceR aw 0 n m).2.1], .bool (sliceR aw 0 n m).2.2]) (by simp [results, Tryz.results90, go_sem]) rfl ?_
    exact res_w hwk.out Za.out rfl (fun _ => by simp [kWidth]) (by simp [kWidth]) (by (repeat' (first | (with_reducible exact Below.refl _ _) | (with_reducible refine Below.alloc ?_ ?_ _) | (with_reducible refine bd ?_) | (with_reducible refine Below.drew ?_) | (with_reducible refine Below.setCell ?_ ?_ _) | go_size | (simp [World.drewN]; omega))))
set_option maxRecDepth 100000 in
set_option maxHeartbeats 4000000 in
theorem c_res31 (x : ND) (hk : x.kind = 31) (a : Int × Int) (ha : 0 ≤ a.1) (g cap : Nat) (w : World) (h : SortsAt w g [a]) :
    Calls Tryz.prog 90 #[.agg x.cells.toArray, .slice (some ⟨g, 0, none⟩) 1 cap] w (ResP x a (0, 0) (0, 0) w) := by
  obtain ⟨hg, h⟩ := h
  obtain ⟨a0, a1⟩ := h 0 (by simp)
  simp at a0 a1
  clear h
  have hwk0 : WK x.kind := by rw [hk]; unfold WK; decide
  have hwk : Hid (WK x.kind) := hwk0
  clear hwk0
  obtain ⟨k, pa, pb, pc, n, m, si, sw, nm⟩ := x
  simp only [ND.cells] at *
  subst hk
  obtain ⟨ai, aw⟩ := a
  simp only at *
  by_cases h1 : 0 < ai
  · go_enter Tryz.func90, Tryz.ntmps90
    go_wp2_with fail
    go_rounds 3
    refine bodyPost_ret (v := .tuple #[.agg #[.int .i64 0, .int .i64 0], .bool false]) (by simp [results, Tryz.results90, go_sem]) rfl ?_
    exact res_arr hwk.out (.inl h1) (by (repeat' (first | (with_reducible exact Below.refl _ _) | (with_reducible refine Below.alloc ?_ ?_ _) | (with_reducible refine bd ?_) | (with_reducible refine Below.drew ?_) | (with_reducible refine Below.setCell ?_ ?_ _) | go_size | (simp [World.drewN]; omega))))
  · have q : decide (0 < ai) = false := by simpa using h1
    have za : ai = 0 := by omega
    have Za : Hid (ai = 0) := za
    clear za
    go_enter Tryz.func90, Tryz.ntmps90
    go_wp2_with fail
    go_rounds 3
    go_quiet ((go_at_call 112; exact Calls.quiet_of_same (c_WordGrowS _ _ _ _ _)))
    go_wp2_with (go_at_call 60; refine (c_l2Word _ _).mono ?_; rintro e w' ⟨rfl, rfl⟩)
    refine bodyPost_ret (v := .tuple #[.agg #[.int .i64 0, .int .i64 (growR aw 0 n false).2.1], .bool (growR aw 0 n false).2.2]) (by simp [results, Tryz.results90, go_sem]) rfl ?_
    exact res_w hwk.out Za.out rfl (fun _ => by simp [kWidth]) (by simp [kWidth]) (by (repeat' (first | (with_reducible exact Below.refl _ _) | (with_reducible refine Below.alloc ?_ ?_ _) | (with_reducible refine bd ?_) | (with_reducible refine Below.drew ?_) | (with_reducible refine Below.setCell ?_ ?_ _) | go_size | (simp [World.drewN]; omega))))
set_option maxRecDepth 100000 in
set_option maxHeartbeats 4000000 in
theorem c_res32 (x : ND) (hk : x.kind = 32) (a : Int × Int) (ha : 0 ≤ a.1) (g cap : Nat) (w : World) (h : SortsAt w g [a]) :
    Calls Tryz.prog 90 #[.agg x.cells.toArray, .slice (some ⟨g, 0, none⟩) 1 cap] w (ResP x a (0, 0) (0, 0) w) := by
  obtain ⟨hg, h⟩ := h
  obtain ⟨a0, a1⟩ := h 0 (by simp)
  simp at a0 a1
  clear h
  have hwk0 : WK x.kind := by rw [hk]; unfold WK; decide
  have hwk : Hid (WK x.kind) := hwk0
  clear hwk0
  obtain ⟨k, pa, pb, pc, n, m, si, sw, nm⟩ := x
  simp only [ND.cells] at *
  subst hk
  obtain ⟨ai, aw⟩ := a
  simp only at *
  by_cases h1 : 0 < ai
  · go_enter Tryz.func90, Tryz.ntmps90
    go_wp2_with fail
    go_rounds 3
    refine bodyPost_ret (v := .tuple #[.agg #[.int .i64 0, .int .i64 0], .bool false]) (by simp [results, Tryz.results90, go_sem]) rfl ?_
    exact res_arr hwk.out (.inl h1) (by (repeat' (first | (with_reducible exact Below.refl _ _) | (with_reducible refine Below.alloc ?_ ?_ _) | (with_reducible refine bd ?_) | (with_reducible refine Below.drew ?_) | (with_reducible refine Below.setCell ?_ ?_ _) | go_size | (simp [World.drewN]; omega))))
  · have q : decide (0 < ai) = false := by simpa using h1
    have za : ai = 0 := by omega
    have Za : Hid (ai = 0) := za
    clear za
    go_enter Tryz.func90, Tryz.ntmps90
    go_wp2_with fail
    go_rounds 3
    go_quiet ((go_at_call 112; exact Calls.quiet_of_same (c_WordGrowS _ _ _ _ _)))
    go_wp2_with (go_at_call 60; refine (c_l2Word _ _).mono ?_; rintro e w' ⟨rfl, rfl⟩)
    refine bodyPost_ret (v := .tuple #[.agg #[.int .i64 0, .int .i64 (growR aw 0 n false).2.1], .bool (growR aw 0 n false).2.2]) (by simp [results, Tryz.results90, go_sem]) rfl ?_
    exact res_w hwk.out Za.out rfl (fun _ => by simp [kWidth]) (by simp [kWidth]) (by (repeat' (first | (with_reducible exact Below.refl _ _) | (with_reducible refine Below.alloc ?_ ?_ _) | (with_reducible refine bd ?_) | (with_reducible refine Below.drew ?_) | (with_reducible refine Below.setCell ?_ ?_ _) | go_size | (simp [World.drewN]; omega))))
set_option maxRecDepth 100000 in
set_option maxHeartbeats 4000000 in
theorem c_resOne (x : ND) (hk1 : 1 ≤ x.kind) (hk2 : x.kind ≤ 5) (a : Int × Int) (ha : 0 ≤ a.1) (g cap : Nat) (w : World) (h : SortsAt w g [a]) :
    Calls Tryz.prog 90 #[.agg x.cells.toArray, .slice (some ⟨g, 0, none⟩) 1 cap] w (ResP x a (0, 0) (0, 0) w) := by
  obtain ⟨hg, h⟩ := h
  obtain ⟨a0, a1⟩ := h 0 (by simp)
  simp at a0 a1
  clear h
  have hwk0 : WK x.kind := by unfold WK namedB; simp; omega
  have hwk : Hid (WK x.kind) := hwk0
  clear hwk0
  obtain ⟨k, pa, pb, pc, n, m, si, sw, nm⟩ := x
  simp only [ND.cells] at *
  obtain ⟨ai, aw⟩ := a
  simp only at *
  have e33 : (k == 33) = false := by simp; omega
  have e37 : (k == 37) = false := by simp; omega
  have e38 : (k == 38) = false := by simp; omega
  have e21 : (k == 21) = false := by simp; omega
  have e29 : (k == 29) = false := by simp; omega
  have e30 : (k == 30) = false := by simp; omega
  have e31 : (k == 31) = false := by simp; omega
  have e32 : (k == 32) = false := by simp; omega
  have HK : Hid (1 ≤ k ∧ k ≤ 5) := ⟨hk1, hk2⟩
  have K29 : Hid (¬ k = 29) := show ¬ k = 29 by omega
  have K30 : Hid (¬ k = 30) := show ¬ k = 30 by omega
  have K31 : Hid (¬ (k = 31 ∨ k = 32)) := show ¬ (k = 31 ∨ k = 32) by omega
  by_cases h1 : 0 < ai
  · go_enter Tryz.func90, Tryz.ntmps90
    go_wp2_with fail
    go_rounds 3
    refine bodyPost_ret (v := .tuple #[.agg #[.int .i64 0, .int .i64 0], .bool false]) (by simp [results, Tryz.results90, go_sem]) rfl ?_
    exact res_arr hwk.out (.inl h1) (by (repeat' (first | (with_reducible exact Below.refl _ _) | (with_reducible refine Below.alloc ?_ ?_ _) | (with_reducible refine bd ?_) | (with_reducible refine Below.drew ?_) | (with_reducible refine Below.setCell ?_ ?_ _) | go_size | (simp [World.drewN]; omega))))
  · have q : decide (0 < ai) = false := by simpa using h1
    have za : ai = 0 := by omega
    have Za : Hid (ai = 0) := za
    clear za
    go_enter Tryz.func90, Tryz.ntmps90
    go_wp2_with fail
    go_rounds 3
    go_quiet ((go_at_call 113; exact Calls.quiet_of_same (c_WordOneS _ _ _ _)))
    go_wp2_with (go_at_call 60; refine (c_l2Word _ _).mono ?_; rintro e w' ⟨rfl, rfl⟩)
    refine bodyPost_ret (v := .tuple #[.agg #[.int .i64 0, .int .i64 (oneR k aw 0).2.1], .bool (oneR k aw 0).2.2]) (by simp [results, Tryz.results90, go_sem]) rfl ?_
    exact res_w hwk.out Za.out rfl (fun _ => by unfold kWidth; rw [if_neg K29.out, if_neg K30.out, if_neg K31.out, if_pos HK.out]) (by unfold kWidth; rw [if_neg K29.out, if_neg K30.out, if_neg K31.out, if_pos HK.out]) (by (repeat' (first | (with_reducible exact Below.refl _ _) | (with_reducible refine Below.alloc ?_ ?_ _) | (with_reducible refine bd ?_) | (with_reducible refine Below.drew ?_) | (with_reducible refine Below.setCell ?_ ?_ _) | go_size | (simp [World.drewN]; omega))))
set_option maxRecDepth 100000 in
set_option maxHeartbeats 4000000 in
theorem c_resTwo (x : ND) (hk1 : 6 ≤ x.kind) (hk2 : x.kind ≤ 28) (hk3 : x.kind ≠ 21) (a : Int × Int) (b : Int × Int) (ha : 0 ≤ a.1) (hb : 0 ≤ b.1) (g cap : Nat) (w : World) (h : SortsAt w g [a, b]) :
    Calls Tryz.prog 90 #[.agg x.cells.toArray, .slice (some ⟨g, 0, none⟩) 2 cap] w (ResP x a b (0, 0) w) := by
  obtain ⟨hg, h⟩ := h
  obtain ⟨a0, a1⟩ := h 0 (by simp)
  obtain ⟨b0, b1⟩ := h 1 (by simp)
  simp at a0 a1 b0 b1
  clear h
  have hwk0 : WK x.kind := by unfold WK namedB; simp; omega
  have hwk : Hid (WK x.kind) := hwk0
  clear hwk0
  obtain ⟨k, pa, pb, pc, n, m, si, sw, nm⟩ := x
  simp only [ND.cells] at *
  obtain ⟨ai, aw⟩ := a
  obtain ⟨bi, bw⟩ := b
  simp only at *
  have e33 : (k == 33) = false := by simp; omega
  have e37 : (k == 37) = false := by simp; omega
  have e38 : (k == 38) = false := by simp; omega
  have e21 : (k == 21) = false := by simp; omega
  have e29 : (k == 29) = false := by simp; omega
  have e30 : (k == 30) = false := by simp; omega
  have e31 : (k == 31) = false := by simp; omega
  have e32 : (k == 32) = false := by simp; omega
  have k29 : ¬ k = 29 := by omega
  have k30 : ¬ k = 30 := by omega
  have k312 : ¬ (k = 31 ∨ k = 32) := by omega
  have k15 : ¬ (1 ≤ k ∧ k ≤ 5) := by omega
  by_cases h1 : 0 < ai
  · go_enter Tryz.func90, Tryz.ntmps90
    go_wp2_with fail
    go_rounds 3
    refine bodyPost_ret (v := .tuple #[.agg #[.int .i64 0, .int .i64 0], .bool false]) (by simp [results, Tryz.results90, go_sem]) rfl ?_
    exact res_arr hwk.out (.inl h1) (by (repeat' (first | (with_reducible exact Below.refl _ _) | (with_reducible refine Below.alloc ?_ ?_ _) | (with_reducible refine bd ?_) | (with_reducible refine Below.drew ?_) | (with_reducible refine Below.setCell ?_ ?_ _) | go_size | (simp [World.drewN]; omega))))
  · have q : decide (0 < ai) = false := by simpa using h1
    have za : ai = 0 := by omega
    have Za : Hid (ai = 0) := za
    clear za
    by_cases h2 : 0 < bi
    · go_enter Tryz.func90, Tryz.ntmps90
      go_wp2_with fail
      go_rounds 3
      refine bodyPost_ret (v := .tuple #[.agg #[.int .i64 0, .int .i64 0], .bool false]) (by simp [results, Tryz.results90, go_sem]) rfl ?_
      exact res_arr hwk.out (.inr h2) (by (repeat' (first | (with_reducible exact Below.refl _ _) | (with_reducible refine Below.alloc ?_ ?_ _) | (with_reducible refine bd ?_) | (with_reducible refine Below.drew ?_) | (with_reducible refine Below.setCell ?_ ?_ _) | go_size | (simp [World.drewN]; omega))))
    · have q2 : decide (0 < bi) = false := by simpa using h2
      have zb : bi = 0 := by omega
      have Zb : Hid (bi = 0) := zb
      clear zb
      by_cases hw : aw = bw
      · have hi : ai = bi := Za.out.trans Zb.out.symm
        subst hw hi
        go_enter Tryz.func90, Tryz.ntmps90
        go_wp2_with fail
        go_rounds 3
        refine wp_region_held_drew (S := (fun w' => w'.cell? ⟨g, 0, none⟩ = some (.int .i64 ai) ∧ w'.cell? ⟨g, 1, none⟩ = some (.int .i64 aw) ∧ w'.cell? ⟨g, 2, none⟩ = some (.int .i64 ai) ∧ w'.cell? ⟨g, 3, none⟩ = some (.int .i64 aw))) (by kernel_rfl) ?_ (fun hHeld => ?_)
        · exact ⟨keepc (by go_grown) hg a0, keepc (by go_grown) hg a1, keepc (by go_grown) hg b0, keepc (by go_grown) hg b1⟩
        refine tL 0 (some 178) ?_
        refine tL 1 (some 179) ?_
        refine tL 2 (some 180) ?_
        refine tL 3 (some 181) ?_
        refine tL 4 (some 182) ?_
        refine tL 5 (some 183) ?_
        refine tL 6 (some 184) ?_
        refine tL 7 (some 177) ?_
        refine wpAnyH_done (by kernel_rfl) ?_ _
        go_wp2_with fail
        refine wp_region_held_drew (S := (fun w' => w'.cell? ⟨w.heap.size, 0, none⟩ = some (.int .i64 k) ∧ w'.cell? ⟨g, 1, none⟩ = some (.int .i64 aw))) (by kernel_rfl) ?_ (fun hHeld => ?_)
        · exact ⟨by simp, keepc (by (repeat' (first | (with_reducible exact Below.refl _ _) | (with_reducible refine Below.alloc ?_ ?_ _) | (with_reducible refine bd ?_) | (with_reducible refine Below.drew ?_) | (with_reducible refine Below.setCell ?_ ?_ _) | go_size | (simp [World.drewN]; omega)))) hg a1⟩
        refine tL 0 (some 186) ?_
        refine tL 1 (some 187) ?_
        refine tL 2 (some 188) ?_
        refine tL 3 (some 189) ?_
        refine tL 4 (some 190) ?_
        refine tL 5 (some 191) ?_
        refine wpAnyH_ready (rs := [6]) (by kernel_rfl) (by simp) ?_
        refine AllReadyH.cons (o := _) rfl (fun K hK => ?_) AllReadyH.nil
        go_simp
        refine (c_WordTwoS _ _ _ _ _).mono ?_; rintro e w' ⟨rfl, m2, rfl⟩
        (try go_wp2_with fail)
        refine hK.out _ _ ?_ (fun hHeld => ?_)
        · exact ⟨by simp, keepc (by (repeat' (first | (with_reducible exact Below.refl _ _) | (with_reducible refine Below.alloc ?_ ?_ _) | (with_reducible refine bd ?_) | (with_reducible refine Below.drew ?_) | (with_reducible refine Below.setCell ?_ ?_ _) | go_size | (simp [World.drewN]; omega)))) hg a1⟩
        clear hK K
        (try simp only [Act.put, List.setIfInBounds_toArray, List.set_cons_zero, List.set_cons_succ])
        refine tL 7 (some 185) ?_
        refine tL 8 (some 193) ?_
        refine tL 9 (some 194) ?_
        refine tL 10 (some 195) ?_
        refine tL 11 (some 7) ?_
        refine tL 12 (some 8) ?_
        refine wpAnyH_done (by kernel_rfl) ?_ _
        go_wp2_with (go_at_call 60; refine (c_l2Word _ _).mono ?_; rintro e w' ⟨rfl, rfl⟩)
        refine bodyPost_ret (v := .tuple #[.agg #[.int .i64 0, .int .i64 (twoR k aw 0 0).2.1], .bool (twoR k aw 0 0).2.2]) (by simp [results, Tryz.results90, go_sem]) rfl ?_
        exact res_w hwk.out Za.out Zb.out (fun _ => by unfold kWidth; rw [if_neg k29, if_neg k30, if_neg k312, if_neg k15]; try simp) (by unfold kWidth; rw [if_neg k29, if_neg k30, if_neg k312, if_neg k15]; try simp) (by (repeat' (first | (with_reducible exact Below.refl _ _) | (with_reducible refine Below.alloc ?_ ?_ _) | (with_reducible refine bd ?_) | (with_reducible refine Below.drew ?_) | (with_reducible refine Below.setCell ?_ ?_ _) | go_size | (simp [World.drewN]; omega))))
      · have qe : (aw == bw) = false := by simpa using hw
        have hi : ai = bi := Za.out.trans Zb.out.symm
        subst hi
        go_enter Tryz.func90, Tryz.ntmps90
        go_wp2_with fail
        go_rounds 3
        refine wp_region_held_drew (S := (fun w' => w'.cell? ⟨g, 0, none⟩ = some (.int .i64 ai) ∧ w'.cell? ⟨g, 1, none⟩ = some (.int .i64 aw) ∧ w'.cell? ⟨g, 2, none⟩ = some (.int .i64 ai) ∧ w'.cell? ⟨g, 3, none⟩ = some (.int .i64 bw))) (by kernel_rfl) ?_ (fun hHeld => ?_)
        · exact ⟨keepc (by go_grown) hg a0, keepc (by go_grown) hg a1, keepc (by go_grown) hg b0, keepc (by go_grown) hg b1⟩
        refine tL 0 (some 178) ?_
        refine tL 1 (some 179) ?_
        refine tL 2 (some 180) ?_
        refine tL 3 (some 181) ?_
        refine tL 4 (some 182) ?_
        refine tL 5 (some 183) ?_
        refine tL 6 (some 184) ?_
        refine tL 7 (some 177) ?_
        refine wpAnyH_done (by kernel_rfl) ?_ _
        go_wp2_with (go_at_call 60; refine (c_l2Word _ _).mono ?_; rintro e w' ⟨rfl, rfl⟩)
        refine bodyPost_ret (v := .tuple #[.agg #[.int .i64 0, .int .i64 0], .bool false]) (by simp [results, Tryz.results90, go_sem]) rfl ?_
        exact res_w hwk.out Za.out Zb.out (fun h => by cases h) (by unfold kWidth; rw [if_neg k29, if_neg k30, if_neg k312, if_neg k15]; simp [hw]) (by (repeat' (first | (with_reducible exact Below.refl _ _) | (with_reducible refine Below.alloc ?_ ?_ _) | (with_reducible refine bd ?_) | (with_reducible refine Below.drew ?_) | (with_reducible refine Below.setCell ?_ ?_ _) | go_size | (simp [World.drewN]; omega))))
end Go.Proofs.YtbkcecilbpngcaaGreat
