/-
  The sort of a node by those of its parts: the model, kind by kind.
-/
import Derived.Test.YtbkcecilbpngcaaGreatRows
import Derived.Test.YtbkcecilbpngcaaGreatPaA
import Derived.Test.YtbkcecilbpngcaaGreatNodeM
import Derived.Test.YtbkcecilbpngcaaGreatTwo
import Derived.Test.YtbkcecilbpngcaaGreatResP
import Derived.WalkKit
import Derived.ProofKit
import Derived.OpenShut
import Derived.WalkSpells
import Derived.WalkLawsBesides
import Derived.Outline
import Derived.BigQuiet
import Derived.Handy
import Derived.LoopTactic
import Derived.Deep.Light
import Derived.Deep.RegionWith
import Derived.Deep.RegionHeld3
namespace Go.Proofs.YtbkcecilbpngcaaGreat
open Go.ChangeShapes Go.WideShapes Go.ChangeAt Go.RowKit
set_option linter.unusedVariables false

set_option maxRecDepth 100000 in
set_option maxHeartbeats 4000000 in
theorem c_res33 (x : ND) (hk : x.kind = 33) (a : Int × Int) (b : Int × Int) (c : Int × Int) (g cap : Nat) (w : World) (h : SortsAt w g [a, b, c]) :
    Calls Tryz.prog 90 #[.agg x.cells.toArray, .slice (some ⟨g, 0, none⟩) 3 cap] w (ResP x a b c w) := by
  obtain ⟨hg, h⟩ := h
  obtain ⟨a0, a1⟩ := h 0 (by simp)
  obtain ⟨b0, b1⟩ := h 1 (by simp)
  obtain ⟨c0, c1⟩ := h 2 (by simp)
  simp at a0 a1 b0 b1 c0 c1
  clear h
  obtain ⟨k, pa, pb, pc, n, m, si, sw, nm⟩ := x
  simp only [ND.cells] at *
  subst hk
  obtain ⟨ai, aw⟩ := a
  obtain ⟨bi, bw⟩ := b
  obtain ⟨ci, cw⟩ := c
  simp only at *
  by_cases h1 : ai = 0
  · subst h1
    by_cases h2 : aw = 1
    · subst h2
      by_cases h3 : bi = ci
      · subst h3
        by_cases h4 : bw = cw
        · subst h4
          go_enter Tryz.func90, Tryz.ntmps90
          go_wp2_with fail
          refine wp_region_held_drew (S := (fun w' => w'.cell? ⟨g, 0, none⟩ = some (.int .i64 0) ∧ w'.cell? ⟨g, 1, none⟩ = some (.int .i64 1) ∧ w'.cell? ⟨g, 2, none⟩ = some (.int .i64 bi) ∧ w'.cell? ⟨g, 3, none⟩ = some (.int .i64 bw) ∧ w'.cell? ⟨g, 4, none⟩ = some (.int .i64 bi) ∧ w'.cell? ⟨g, 5, none⟩ = some (.int .i64 bw))) (by kernel_rfl) ?_ (fun hHeld => ?_)
          · exact ⟨keepc (by go_grown) hg a0, keepc (by go_grown) hg a1, keepc (by go_grown) hg b0, keepc (by go_grown) hg b1, keepc (by go_grown) hg c0, keepc (by go_grown) hg c1⟩
          refine tL 0 (some 13) ?_
          refine tL 1 (some 14) ?_
          refine tL 2 (some 15) ?_
          refine tL 3 (some 16) ?_
          refine tL 4 (some 17) ?_
          refine tL 5 (some 18) ?_
          refine wpAnyH_ready (rs := [6]) (by kernel_rfl) (by simp) ?_
          refine AllReadyH.cons (o := _) rfl (fun K hK => ?_) AllReadyH.nil
          go_simp
          refine (c_l2Word _ _).mono ?_; rintro e w' ⟨rfl, rfl⟩
          (try go_wp2_with fail)
          refine hK.out _ _ ?_ (fun hHeld => ?_)
          · exact ⟨keepc (by go_grown) hg a0, keepc (by go_grown) hg a1, keepc (by go_grown) hg b0, keepc (by go_grown) hg b1, keepc (by go_grown) hg c0, keepc (by go_grown) hg c1⟩
          clear hK K
          (try simp only [Act.put, List.setIfInBounds_toArray, List.set_cons_zero, List.set_cons_succ])
          refine tL 7 (some 20) ?_
          refine tL 8 (some 21) ?_
          refine tL 9 (some 22) ?_
          refine tL 10 (some 23) ?_
          refine tL 11 (some 24) ?_
          refine tL 12 (some 25) ?_
          refine tL 13 (some 26) ?_
          refine tL 14 (some 27) ?_
          refine tL 15 (some 28) ?_
          refine tL 16 (some 29) ?_
          refine wpAnyH_ready (rs := [17]) (by kernel_rfl) (by simp) ?_
          refine AllReadyH.cons (o := _) rfl (fun K hK => ?_) AllReadyH.nil
          go_simp
          refine hK.out _ _ ?_ (fun hHeld => ?_)
          · exact ⟨keepc (by go_grown) hg a0, keepc (by go_grown) hg a1, keepc (by go_grown) hg b0, keepc (by go_grown) hg b1, keepc (by go_grown) hg c0, keepc (by go_grown) hg c1⟩
          clear hK K
          (try simp only [Act.put, List.setIfInBounds_toArray, List.set_cons_zero, List.set_cons_succ])
          refine tL 18 (some 5) ?_
          refine wpAnyH_done (by kernel_rfl) ?_ _
          go_wp2
          refine bodyPost_ret (v := .tuple #[.agg #[.int .i64 bi, .int .i64 bw], .bool true]) (by simp [results, Tryz.results90, go_sem]) rfl ?_
          exact res_yes (by simp [kOk, namedB]; try omega) (by simp [kSort, namedB]) (by go_grown)
        · have q : (bw == cw) = false := by simpa using h4
          go_enter Tryz.func90, Tryz.ntmps90
          go_wp2_with fail
          refine wp_region_held_drew (S := (fun w' => w'.cell? ⟨g, 0, none⟩ = some (.int .i64 0) ∧ w'.cell? ⟨g, 1, none⟩ = some (.int .i64 1) ∧ w'.cell? ⟨g, 2, none⟩ = some (.int .i64 bi) ∧ w'.cell? ⟨g, 3, none⟩ = some (.int .i64 bw) ∧ w'.cell? ⟨g, 4, none⟩ = some (.int .i64 bi) ∧ w'.cell? ⟨g, 5, none⟩ = some (.int .i64 cw))) (by kernel_rfl) ?_ (fun hHeld => ?_)
          · exact ⟨keepc (by go_grown) hg a0, keepc (by go_grown) hg a1, keepc (by go_grown) hg b0, keepc (by go_grown) hg b1, keepc (by go_grown) hg c0, keepc (by go_grown) hg c1⟩
          refine tL 0 (some 13) ?_
          refine tL 1 (some 14) ?_
          refine tL 2 (some 15) ?_
          refine tL 3 (some 16) ?_
          refine tL 4 (some 17) ?_
          refine tL 5 (some 18) ?_
          refine wpAnyH_ready (rs := [6]) (by kernel_rfl) (by simp) ?_
          refine AllReadyH.cons (o := _) rfl (fun K hK => ?_) AllReadyH.nil
          go_simp
          refine (c_l2Word _ _).mono ?_; rintro e w' ⟨rfl, rfl⟩
          (try go_wp2_with fail)
          refine hK.out _ _ ?_ (fun hHeld => ?_)
          · exact ⟨keepc (by go_grown) hg a0, keepc (by go_grown) hg a1, keepc (by go_grown) hg b0, keepc (by go_grown) hg b1, keepc (by go_grown) hg c0, keepc (by go_grown) hg c1⟩
          clear hK K
          (try simp only [Act.put, List.setIfInBounds_toArray, List.set_cons_zero, List.set_cons_succ])
          refine tL 7 (some 20) ?_
          refine tL 8 (some 21) ?_
          refine tL 9 (some 22) ?_
          refine tL 10 (some 23) ?_
          refine tL 11 (some 24) ?_
          refine tL 12 (some 25) ?_
          refine tL 13 (some 26) ?_
          refine tL 14 (some 27) ?_
          refine tL 15 (some 28) ?_
          refine tL 16 (some 29) ?_
          refine wpAnyH_ready (rs := [17]) (by kernel_rfl) (by simp) ?_
          refine AllReadyH.cons (o := _) rfl (fun K hK => ?_) AllReadyH.nil
          go_simp
          refine hK.out _ _ ?_ (fun hHeld => ?_)
          · exact ⟨keepc (by go_grown) hg a0, keepc (by go_grown) hg a1, keepc (by go_grown) hg b0, keepc (by go_grown) hg b1, keepc (by go_grown) hg c0, keepc (by go_grown) hg c1⟩
          clear hK K
          (try simp only [Act.put, List.setIfInBounds_toArray, List.set_cons_zero, List.set_cons_succ])
          refine tL 18 (some 5) ?_
          refine wpAnyH_done (by kernel_rfl) ?_ _
          go_wp2
          refine bodyPost_ret (v := .tuple #[.agg #[.int .i64 bi, .int .i64 bw], .bool false]) (by simp [results, Tryz.results90, go_sem]) rfl ?_
          exact res_no (by simp [kOk, namedB]; try omega) (by go_grown)
      · have q : (bi == ci) = false := by simpa using h3
        go_enter Tryz.func90, Tryz.ntmps90
        go_wp2_with fail
        refine wp_region_held_drew (S := (fun w' => w'.cell? ⟨g, 0, none⟩ = some (.int .i64 0) ∧ w'.cell? ⟨g, 1, none⟩ = some (.int .i64 1) ∧ w'.cell? ⟨g, 2, none⟩ = some (.int .i64 bi) ∧ w'.cell? ⟨g, 3, none⟩ = some (.int .i64 bw) ∧ w'.cell? ⟨g, 4, none⟩ = some (.int .i64 ci) ∧ w'.cell? ⟨g, 5, none⟩ = some (.int .i64 cw))) (by kernel_rfl) ?_ (fun hHeld => ?_)
        · exact ⟨keepc (by go_grown) hg a0, keepc (by go_grown) hg a1, keepc (by go_grown) hg b0, keepc (by go_grown) hg b1, keepc (by go_grown) hg c0, keepc (by go_grown) hg c1⟩
        refine tL 0 (some 13) ?_
        refine tL 1 (some 14) ?_
        refine tL 2 (some 15) ?_
        refine tL 3 (some 16) ?_
        refine tL 4 (some 17) ?_
        refine tL 5 (some 18) ?_
        refine wpAnyH_ready (rs := [6]) (by kernel_rfl) (by simp) ?_
        refine AllReadyH.cons (o := _) rfl (fun K hK => ?_) AllReadyH.nil
        go_simp
        refine (c_l2Word _ _).mono ?_; rintro e w' ⟨rfl, rfl⟩
        (try go_wp2_with fail)
        refine hK.out _ _ ?_ (fun hHeld => ?_)
        · exact ⟨keepc (by go_grown) hg a0, keepc (by go_grown) hg a1, keepc (by go_grown) hg b0, keepc (by go_grown) hg b1, keepc (by go_grown) hg c0, keepc (by go_grown) hg c1⟩
        clear hK K
        (try simp only [Act.put, List.setIfInBounds_toArray, List.set_cons_zero, List.set_cons_succ])
        refine tL 7 (some 20) ?_
        refine tL 8 (some 21) ?_
        refine tL 9 (some 22) ?_
        refine tL 10 (some 23) ?_
        refine tL 11 (some 24) ?_
        refine tL 12 (some 25) ?_
        refine tL 13 (some 26) ?_
        refine tL 14 (some 27) ?_
        refine tL 15 (some 28) ?_
        refine tL 16 (some 29) ?_
        refine wpAnyH_ready (rs := [17]) (by kernel_rfl) (by simp) ?_
        refine AllReadyH.cons (o := _) rfl (fun K hK => ?_) AllReadyH.nil
        go_simp
        refine hK.out _ _ ?_ (fun hHeld => ?_)
        · exact ⟨keepc (by go_grown) hg a0, keepc (by go_grown) hg a1, keepc (by go_grown) hg b0, keepc (by go_grown) hg b1, keepc (by go_grown) hg c0, keepc (by go_grown) hg c1⟩
        clear hK K
        (try simp only [Act.put, List.setIfInBounds_toArray, List.set_cons_zero, List.set_cons_succ])
        refine tL 18 (some 5) ?_
        refine wpAnyH_done (by kernel_rfl) ?_ _
        go_wp2
        refine bodyPost_ret (v := .tuple #[.agg #[.int .i64 bi, .int .i64 bw], .bool false]) (by simp [results, Tryz.results90, go_sem]) rfl ?_
        exact res_no (by simp [kOk, namedB]; try omega) (by go_grown)
    · have q : (aw == 1) = false := by simpa using h2
      go_enter Tryz.func90, Tryz.ntmps90
      go_wp2_with fail
      refine wp_region_held_drew (S := (fun w' => w'.cell? ⟨g, 0, none⟩ = some (.int .i64 0) ∧ w'.cell? ⟨g, 1, none⟩ = some (.int .i64 aw) ∧ w'.cell? ⟨g, 2, none⟩ = some (.int .i64 bi) ∧ w'.cell? ⟨g, 3, none⟩ = some (.int .i64 bw) ∧ w'.cell? ⟨g, 4, none⟩ = some (.int .i64 ci) ∧ w'.cell? ⟨g, 5, none⟩ = some (.int .i64 cw))) (by kernel_rfl) ?_ (fun hHeld => ?_)
      · exact ⟨keepc (by go_grown) hg a0, keepc (by go_grown) hg a1, keepc (by go_grown) hg b0, keepc (by go_grown) hg b1, keepc (by go_grown) hg c0, keepc (by go_grown) hg c1⟩
      refine tL 0 (some 13) ?_
      refine tL 1 (some 14) ?_
      refine tL 2 (some 15) ?_
      refine tL 3 (some 16) ?_
      refine tL 4 (some 17) ?_
      refine tL 5 (some 18) ?_
      refine wpAnyH_ready (rs := [6]) (by kernel_rfl) (by simp) ?_
      refine AllReadyH.cons (o := _) rfl (fun K hK => ?_) AllReadyH.nil
      go_simp
      refine (c_l2Word _ _).mono ?_; rintro e w' ⟨rfl, rfl⟩
      (try go_wp2_with fail)
      refine hK.out _ _ ?_ (fun hHeld => ?_)
      · exact ⟨keepc (by go_grown) hg a0, keepc (by go_grown) hg a1, keepc (by go_grown) hg b0, keepc (by go_grown) hg b1, keepc (by go_grown) hg c0, keepc (by go_grown) hg c1⟩
      clear hK K
      (try simp only [Act.put, List.setIfInBounds_toArray, List.set_cons_zero, List.set_cons_succ])
      refine tL 7 (some 20) ?_
      refine tL 8 (some 21) ?_
      refine tU 9 (some 22) ?_
      refine tU 10 (some 23) ?_
      refine tU 11 (some 24) ?_
      refine tU 12 (some 25) ?_
      refine tU 13 (some 26) ?_
      refine tU 14 (some 27) ?_
      refine tU 15 (some 28) ?_
      refine tL 16 (some 29) ?_
      refine wpAnyH_ready (rs := [17]) (by kernel_rfl) (by simp) ?_
      refine AllReadyH.cons (o := _) rfl (fun K hK => ?_) AllReadyH.nil
      go_simp
      refine hK.out _ _ ?_ (fun hHeld => ?_)
      · exact ⟨keepc (by go_grown) hg a0, keepc (by go_grown) hg a1, keepc (by go_grown) hg b0, keepc (by go_grown) hg b1, keepc (by go_grown) hg c0, keepc (by go_grown) hg c1⟩
      clear hK K
      (try simp only [Act.put, List.setIfInBounds_toArray, List.set_cons_zero, List.set_cons_succ])
      refine tL 18 (some 5) ?_
      refine wpAnyH_done (by kernel_rfl) ?_ _
      go_wp2
      refine bodyPost_ret (v := .tuple #[.agg #[.int .i64 bi, .int .i64 bw], .bool false]) (by simp [results, Tryz.results90, go_sem]) rfl ?_
      exact res_no (by simp [kOk, namedB]; try omega) (by go_grown)
  · have q : (ai == 0) = false := by simpa using h1
    go_enter Tryz.func90, Tryz.ntmps90
    go_wp2_with fail
    refine wp_region_held_drew (S := (fun w' => w'.cell? ⟨g, 0, none⟩ = some (.int .i64 ai) ∧ w'.cell? ⟨g, 1, none⟩ = some (.int .i64 aw) ∧ w'.cell? ⟨g, 2, none⟩ = some (.int .i64 bi) ∧ w'.cell? ⟨g, 3, none⟩ = some (.int .i64 bw) ∧ w'.cell? ⟨g, 4, none⟩ = some (.int .i64 ci) ∧ w'.cell? ⟨g, 5, none⟩ = some (.int .i64 cw))) (by kernel_rfl) ?_ (fun hHeld => ?_)
    · exact ⟨keepc (by go_grown) hg a0, keepc (by go_grown) hg a1, keepc (by go_grown) hg b0, keepc (by go_grown) hg b1, keepc (by go_grown) hg c0, keepc (by go_grown) hg c1⟩
    refine tL 0 (some 13) ?_
    refine tL 1 (some 14) ?_
    refine tL 2 (some 15) ?_
    refine tL 3 (some 16) ?_
    refine tL 4 (some 17) ?_
    refine tL 5 (some 18) ?_
    refine wpAnyH_ready (rs := [6]) (by kernel_rfl) (by simp) ?_
    refine AllReadyH.cons (o := _) rfl (fun K hK => ?_) AllReadyH.nil
    go_simp
    refine (c_l2Word _ _).mono ?_; rintro e w' ⟨rfl, rfl⟩
    (try go_wp2_with fail)
    refine hK.out _ _ ?_ (fun hHeld => ?_)
    · exact ⟨keepc (by go_grown) hg a0, keepc (by go_grown) hg a1, keepc (by go_grown) hg b0, keepc (by go_grown) hg b1, keepc (by go_grown) hg c0, keepc (by go_grown) hg c1⟩
    clear hK K
    (try simp only [Act.put, List.setIfInBounds_toArray, List.set_cons_zero, List.set_cons_succ])
    refine tL 7 (some 20) ?_
    refine tL 8 (some 21) ?_
    refine tU 9 (some 22) ?_
    refine tU 10 (some 23) ?_
    refine tU 11 (some 24) ?_
    refine tU 12 (some 25) ?_
    refine tU 13 (some 26) ?_
    refine tU 14 (some 27) ?_
    refine tU 15 (some 28) ?_
    refine tL 16 (some 29) ?_
    refine wpAnyH_ready (rs := [17]) (by kernel_rfl) (by simp) ?_
    refine AllReadyH.cons (o := _) rfl (fun K hK => ?_) AllReadyH.nil
    go_simp
    refine hK.out _ _ ?_ (fun hHeld => ?_)
    · exact ⟨keepc (by go_grown) hg a0, keepc (by go_grown) hg a1, keepc (by go_grown) hg b0, keepc (by go_grown) hg b1, keepc (by go_grown) hg c0, keepc (by go_grown) hg c1⟩
    clear hK K
    (try simp only [Act.put, List.setIfInBounds_toArray, List.set_cons_zero, List.set_cons_succ])
    refine tL 18 (some 5) ?_
    refine wpAnyH_done (by kernel_rfl) ?_ _
    go_wp2
    refine bodyPost_ret (v := .tuple #[.agg #[.int .i64 bi, .int .i64 bw], .bool false]) (by simp [results, Tryz.results90, go_sem]) rfl ?_
    exact res_no (by simp [kOk, namedB]; try omega) (by go_grown)
set_option maxRecDepth 100000 in
set_option maxHeartbeats 4000000 in
theorem c_res21 (x : ND) (hk : x.kind = 21) (a : Int × Int) (b : Int × Int) (g cap : Nat) (w : World) (h : SortsAt w g [a, b]) :
    Calls Tryz.prog 90 #[.agg x.cells.toArray, .slice (some ⟨g, 0, none⟩) 2 cap] w (ResP x a b (0, 0) w) := by
  obtain ⟨hg, h⟩ := h
  obtain ⟨a0, a1⟩ := h 0 (by simp)
  obtain ⟨b0, b1⟩ := h 1 (by simp)
  simp at a0 a1 b0 b1
  clear h
  obtain ⟨k, pa, pb, pc, n, m, si, sw, nm⟩ := x
  simp only [ND.cells] at *
  subst hk
  obtain ⟨ai, aw⟩ := a
  obtain ⟨bi, bw⟩ := b
  simp only at *
  by_cases h3 : ai = bi
  · subst h3
    by_cases h4 : aw = bw
    · subst h4
      go_enter Tryz.func90, Tryz.ntmps90
      go_wp2_with fail
      refine wp_region_held_drew (S := (fun w' => w'.cell? ⟨g, 0, none⟩ = some (.int .i64 ai) ∧ w'.cell? ⟨g, 1, none⟩ = some (.int .i64 aw) ∧ w'.cell? ⟨g, 2, none⟩ = some (.int .i64 ai) ∧ w'.cell? ⟨g, 3, none⟩ = some (.int .i64 aw))) (by kernel_rfl) ?_ (fun hHeld => ?_)
      · exact ⟨keepc (by go_grown) hg a0, keepc (by go_grown) hg a1, keepc (by go_grown) hg b0, keepc (by go_grown) hg b1⟩
      refine tL 1 (some 88) ?_
      refine tL 2 (some 89) ?_
      refine tL 3 (some 90) ?_
      refine tL 4 (some 91) ?_
      refine tL 5 (some 92) ?_
      refine tL 6 (some 93) ?_
      refine tL 7 (some 94) ?_
      refine wpAnyH_ready (rs := [0]) (by kernel_rfl) (by simp) ?_
      refine AllReadyH.cons (o := _) rfl (fun K hK => ?_) AllReadyH.nil
      go_simp
      refine (c_l2Word _ _).mono ?_; rintro e w' ⟨rfl, rfl⟩
      (try go_wp2_with fail)
      refine hK.out _ _ ?_ (fun hHeld => ?_)
      · exact ⟨keepc (by go_grown) hg a0, keepc (by go_grown) hg a1, keepc (by go_grown) hg b0, keepc (by go_grown) hg b1⟩
      clear hK K
      (try simp only [Act.put, List.setIfInBounds_toArray, List.set_cons_zero, List.set_cons_succ])
      refine wpAnyH_ready (rs := [8]) (by kernel_rfl) (by simp) ?_
      refine AllReadyH.cons (o := _) rfl (fun K hK => ?_) AllReadyH.nil
      go_simp
      refine hK.out _ _ ?_ (fun hHeld => ?_)
      · exact ⟨keepc (by go_grown) hg a0, keepc (by go_grown) hg a1, keepc (by go_grown) hg b0, keepc (by go_grown) hg b1⟩
      clear hK K
      (try simp only [Act.put, List.setIfInBounds_toArray, List.set_cons_zero, List.set_cons_succ])
      refine tL 9 (some 5) ?_
      refine wpAnyH_done (by kernel_rfl) ?_ _
      go_wp2
      refine bodyPost_ret (v := .tuple #[.agg #[.int .i64 0, .int .i64 1], .bool true]) (by simp [results, Tryz.results90, go_sem]) rfl ?_
      exact res_yes (by simp [kOk, namedB]; try omega) (by simp [kSort, namedB]) (by go_grown)
    · have q : (aw == bw) = false := by simpa using h4
      go_enter Tryz.func90, Tryz.ntmps90
      go_wp2_with fail
      refine wp_region_held_drew (S := (fun w' => w'.cell? ⟨g, 0, none⟩ = some (.int .i64 ai) ∧ w'.cell? ⟨g, 1, none⟩ = some (.int .i64 aw) ∧ w'.cell? ⟨g, 2, none⟩ = some (.int .i64 ai) ∧ w'.cell? ⟨g, 3, none⟩ = some (.int .i64 bw))) (by kernel_rfl) ?_ (fun hHeld => ?_)
      · exact ⟨keepc (by go_grown) hg a0, keepc (by go_grown) hg a1, keepc (by go_grown) hg b0, keepc (by go_grown) hg b1⟩
      refine tL 1 (some 88) ?_
      refine tL 2 (some 89) ?_
      refine tL 3 (some 90) ?_
      refine tL 4 (some 91) ?_
      refine tL 5 (some 92) ?_
      refine tL 6 (some 93) ?_
      refine tL 7 (some 94) ?_
      refine wpAnyH_ready (rs := [0]) (by kernel_rfl) (by simp) ?_
      refine AllReadyH.cons (o := _) rfl (fun K hK => ?_) AllReadyH.nil
      go_simp
      refine (c_l2Word _ _).mono ?_; rintro e w' ⟨rfl, rfl⟩
      (try go_wp2_with fail)
      refine hK.out _ _ ?_ (fun hHeld => ?_)
      · exact ⟨keepc (by go_grown) hg a0, keepc (by go_grown) hg a1, keepc (by go_grown) hg b0, keepc (by go_grown) hg b1⟩
      clear hK K
      (try simp only [Act.put, List.setIfInBounds_toArray, List.set_cons_zero, List.set_cons_succ])
      refine wpAnyH_ready (rs := [8]) (by kernel_rfl) (by simp) ?_
      refine AllReadyH.cons (o := _) rfl (fun K hK => ?_) AllReadyH.nil
      go_simp
      refine hK.out _ _ ?_ (fun hHeld => ?_)
      · exact ⟨keepc (by go_grown) hg a0, keepc (by go_grown) hg a1, keepc (by go_grown) hg b0, keepc (by go_grown) hg b1⟩
      clear hK K
      (try simp only [Act.put, List.setIfInBounds_toArray, List.set_cons_zero, List.set_cons_succ])
      refine tL 9 (some 5) ?_
      refine wpAnyH_done (by kernel_rfl) ?_ _
      go_wp2
      refine bodyPost_ret (v := .tuple #[.agg #[.int .i64 0, .int .i64 1], .bool false]) (by simp [results, Tryz.results90, go_sem]) rfl ?_
      exact res_no (by simp [kOk, namedB]; try omega) (by go_grown)
  · have q : (ai == bi) = false := by simpa using h3
    go_enter Tryz.func90, Tryz.ntmps90
    go_wp2_with fail
    refine wp_region_held_drew (S := (fun w' => w'.cell? ⟨g, 0, none⟩ = some (.int .i64 ai) ∧ w'.cell? ⟨g, 1, none⟩ = some (.int .i64 aw) ∧ w'.cell? ⟨g, 2, none⟩ = some (.int .i64 bi) ∧ w'.cell? ⟨g, 3, none⟩ = some (.int .i64 bw))) (by kernel_rfl) ?_ (fun hHeld => ?_)
    · exact ⟨keepc (by go_grown) hg a0, keepc (by go_grown) hg a1, keepc (by go_grown) hg b0, keepc (by go_grown) hg b1⟩
    refine tL 1 (some 88) ?_
    refine tL 2 (some 89) ?_
    refine tL 3 (some 90) ?_
    refine tL 4 (some 91) ?_
    refine tL 5 (some 92) ?_
    refine tL 6 (some 93) ?_
    refine tL 7 (some 94) ?_
    refine wpAnyH_ready (rs := [0]) (by kernel_rfl) (by simp) ?_
    refine AllReadyH.cons (o := _) rfl (fun K hK => ?_) AllReadyH.nil
    go_simp
    refine (c_l2Word _ _).mono ?_; rintro e w' ⟨rfl, rfl⟩
    (try go_wp2_with fail)
    refine hK.out _ _ ?_ (fun hHeld => ?_)
    · exact ⟨keepc (by go_grown) hg a0, keepc (by go_grown) hg a1, keepc (by go_grown) hg b0, keepc (by go_grown) hg b1⟩
    clear hK K
    (try simp only [Act.put, List.setIfInBounds_toArray, List.set_cons_zero, List.set_cons_succ])
    refine wpAnyH_ready (rs := [8]) (by kernel_rfl) (by simp) ?_
    refine AllReadyH.cons (o := _) rfl (fun K hK => ?_) AllReadyH.nil
    go_simp
    refine hK.out _ _ ?_ (fun hHeld => ?_)
    · exact ⟨keepc (by go_grown) hg a0, keepc (by go_grown) hg a1, keepc (by go_grown) hg b0, keepc (by go_grown) hg b1⟩
    clear hK K
    (try simp only [Act.put, List.setIfInBounds_toArray, List.set_cons_zero, List.set_cons_succ])
    refine tL 9 (some 5) ?_
    refine wpAnyH_done (by kernel_rfl) ?_ _
    go_wp2
    refine bodyPost_ret (v := .tuple #[.agg #[.int .i64 0, .int .i64 1], .bool false]) (by simp [results, Tryz.results90, go_sem]) rfl ?_
    exact res_no (by simp [kOk, namedB]; try omega) (by go_grown)
set_option maxRecDepth 100000 in
set_option maxHeartbeats 4000000 in
theorem c_res37 (x : ND) (hk : x.kind = 37) (a : Int × Int) (b : Int × Int) (g cap : Nat) (w : World) (h : SortsAt w g [a, b]) :
    Calls Tryz.prog 90 #[.agg x.cells.toArray, .slice (some ⟨g, 0, none⟩) 2 cap] w (ResP x a b (0, 0) w) := by
  obtain ⟨hg, h⟩ := h
  obtain ⟨a0, a1⟩ := h 0 (by simp)
  obtain ⟨b0, b1⟩ := h 1 (by simp)
  simp at a0 a1 b0 b1
  clear h
  obtain ⟨k, pa, pb, pc, n, m, si, sw, nm⟩ := x
  simp only [ND.cells] at *
  subst hk
  obtain ⟨ai, aw⟩ := a
  obtain ⟨bi, bw⟩ := b
  simp only at *
  by_cases h1 : 0 < ai
  · by_cases h2 : bi = 0
    · subst h2
      by_cases h3 : bw = ai
      · subst h3
        go_enter Tryz.func90, Tryz.ntmps90
        go_wp2_with fail
        refine wp_region_held_drew (S := (fun w' => w'.cell? ⟨g, 0, none⟩ = some (.int .i64 bw) ∧ w'.cell? ⟨g, 1, none⟩ = some (.int .i64 aw) ∧ w'.cell? ⟨g, 2, none⟩ = some (.int .i64 0) ∧ w'.cell? ⟨g, 3, none⟩ = some (.int .i64 bw))) (by kernel_rfl) ?_ (fun hHeld => ?_)
        · exact ⟨keepc (by go_grown) hg a0, keepc (by go_grown) hg a1, keepc (by go_grown) hg b0, keepc (by go_grown) hg b1⟩
        refine tL 0 (some 32) ?_
        refine tL 1 (some 33) ?_
        refine tL 2 (some 34) ?_
        refine tL 3 (some 35) ?_
        refine tL 5 (some 37) ?_
        refine tL 6 (some 38) ?_
        refine tL 7 (some 39) ?_
        refine tL 8 (some 40) ?_
        refine tL 9 (some 41) ?_
        refine wpAnyH_ready (rs := [4]) (by kernel_rfl) (by simp) ?_
        refine AllReadyH.cons (o := _) rfl (fun K hK => ?_) AllReadyH.nil
        go_simp
        refine (c_l2Word _ _).mono ?_; rintro e w' ⟨rfl, rfl⟩
        (try go_wp2_with fail)
        refine hK.out _ _ ?_ (fun hHeld => ?_)
        · exact ⟨keepc (by go_grown) hg a0, keepc (by go_grown) hg a1, keepc (by go_grown) hg b0, keepc (by go_grown) hg b1⟩
        clear hK K
        (try simp only [Act.put, List.setIfInBounds_toArray, List.set_cons_zero, List.set_cons_succ])
        refine tL 10 (some 42) ?_
        refine tL 11 (some 43) ?_
        refine tL 12 (some 44) ?_
        refine tL 13 (some 45) ?_
        refine tL 14 (some 46) ?_
        refine tL 15 (some 47) ?_
        refine tL 16 (some 48) ?_
        refine tL 17 (some 49) ?_
        refine wpAnyH_ready (rs := [18]) (by kernel_rfl) (by simp) ?_
        refine AllReadyH.cons (o := _) rfl (fun K hK => ?_) AllReadyH.nil
        go_simp
        refine (c_l2Word _ _).mono ?_; rintro e w' ⟨rfl, rfl⟩
        (try go_wp2_with fail)
        refine hK.out _ _ ?_ (fun hHeld => ?_)
        · exact ⟨keepc (by go_grown) hg a0, keepc (by go_grown) hg a1, keepc (by go_grown) hg b0, keepc (by go_grown) hg b1⟩
        clear hK K
        (try simp only [Act.put, List.setIfInBounds_toArray, List.set_cons_zero, List.set_cons_succ])
        refine tL 19 (some 51) ?_
        refine tL 20 (some 52) ?_
        refine wpAnyH_ready (rs := [21]) (by kernel_rfl) (by simp) ?_
        refine AllReadyH.cons (o := _) rfl (fun K hK => ?_) AllReadyH.nil
        go_simp
        refine hK.out _ _ ?_ (fun hHeld => ?_)
        · exact ⟨keepc (by go_grown) hg a0, keepc (by go_grown) hg a1, keepc (by go_grown) hg b0, keepc (by go_grown) hg b1⟩
        clear hK K
        (try simp only [Act.put, List.setIfInBounds_toArray, List.set_cons_zero, List.set_cons_succ])
        refine tL 22 (some 5) ?_
        refine wpAnyH_done (by kernel_rfl) ?_ _
        go_wp2
        refine bodyPost_ret (v := .tuple #[.agg #[.int .i64 0, .int .i64 aw], .bool true]) (by simp [results, Tryz.results90, go_sem]) rfl ?_
        exact res_yes (by simp [kOk, namedB]; try omega) (by simp [kSort, namedB]) (by go_grown)
      · have q : (bw == ai) = false := by simpa using h3
        go_enter Tryz.func90, Tryz.ntmps90
        go_wp2_with fail
        refine wp_region_held_drew (S := (fun w' => w'.cell? ⟨g, 0, none⟩ = some (.int .i64 ai) ∧ w'.cell? ⟨g, 1, none⟩ = some (.int .i64 aw) ∧ w'.cell? ⟨g, 2, none⟩ = some (.int .i64 0) ∧ w'.cell? ⟨g, 3, none⟩ = some (.int .i64 bw))) (by kernel_rfl) ?_ (fun hHeld => ?_)
        · exact ⟨keepc (by go_grown) hg a0, keepc (by go_grown) hg a1, keepc (by go_grown) hg b0, keepc (by go_grown) hg b1⟩
        refine tL 0 (some 32) ?_
        refine tL 1 (some 33) ?_
        refine tL 2 (some 34) ?_
        refine tL 3 (some 35) ?_
        refine tL 5 (some 37) ?_
        refine tL 6 (some 38) ?_
        refine tL 7 (some 39) ?_
        refine tL 8 (some 40) ?_
        refine tL 9 (some 41) ?_
        refine wpAnyH_ready (rs := [4]) (by kernel_rfl) (by simp) ?_
        refine AllReadyH.cons (o := _) rfl (fun K hK => ?_) AllReadyH.nil
        go_simp
        refine (c_l2Word _ _).mono ?_; rintro e w' ⟨rfl, rfl⟩
        (try go_wp2_with fail)
        refine hK.out _ _ ?_ (fun hHeld => ?_)
        · exact ⟨keepc (by go_grown) hg a0, keepc (by go_grown) hg a1, keepc (by go_grown) hg b0, keepc (by go_grown) hg b1⟩
        clear hK K
        (try simp only [Act.put, List.setIfInBounds_toArray, List.set_cons_zero, List.set_cons_succ])
        refine tL 10 (some 42) ?_
        refine tL 11 (some 43) ?_
        refine tL 12 (some 44) ?_
        refine tL 13 (some 45) ?_
        refine tL 14 (some 46) ?_
        refine tL 15 (some 47) ?_
        refine tL 16 (some 48) ?_
        refine tL 17 (some 49) ?_
        refine wpAnyH_ready (rs := [18]) (by kernel_rfl) (by simp) ?_
        refine AllReadyH.cons (o := _) rfl (fun K hK => ?_) AllReadyH.nil
        go_simp
        refine (c_l2Word _ _).mono ?_; rintro e w' ⟨rfl, rfl⟩
        (try go_wp2_with fail)
        refine hK.out _ _ ?_ (fun hHeld => ?_)
        · exact ⟨keepc (by go_grown) hg a0, keepc (by go_grown) hg a1, keepc (by go_grown) hg b0, keepc (by go_grown) hg b1⟩
        clear hK K
        (try simp only [Act.put, List.setIfInBounds_toArray, List.set_cons_zero, List.set_cons_succ])
        refine tL 19 (some 51) ?_
        refine tL 20 (some 52) ?_
        refine wpAnyH_ready (rs := [21]) (by kernel_rfl) (by simp) ?_
        refine AllReadyH.cons (o := _) rfl (fun K hK => ?_) AllReadyH.nil
        go_simp
        refine hK.out _ _ ?_ (fun hHeld => ?_)
        · exact ⟨keepc (by go_grown) hg a0, keepc (by go_grown) hg a1, keepc (by go_grown) hg b0, keepc (by go_grown) hg b1⟩
        clear hK K
        (try simp only [Act.put, List.setIfInBounds_toArray, List.set_cons_zero, List.set_cons_succ])
        refine tL 22 (some 5) ?_
        refine wpAnyH_done (by kernel_rfl) ?_ _
        go_wp2
        refine bodyPost_ret (v := .tuple #[.agg #[.int .i64 0, .int .i64 aw], .bool false]) (by simp [results, Tryz.results90, go_sem]) rfl ?_
        exact res_no (by simp [kOk, namedB]; try omega) (by go_grown)
    · have q : (bi == 0) = false := by simpa using h2
      go_enter Tryz.func90, Tryz.ntmps90
      go_wp2_with fail
      refine wp_region_held_drew (S := (fun w' => w'.cell? ⟨g, 0, none⟩ = some (.int .i64 ai) ∧ w'.cell? ⟨g, 1, none⟩ = some (.int .i64 aw) ∧ w'.cell? ⟨g, 2, none⟩ = some (.int .i64 bi) ∧ w'.cell? ⟨g, 3, none⟩ = some (.int .i64 bw))) (by kernel_rfl) ?_ (fun hHeld => ?_)
      · exact ⟨keepc (by go_grown) hg a0, keepc (by go_grown) hg a1, keepc (by go_grown) hg b0, keepc (by go_grown) hg b1⟩
      refine tL 0 (some 32) ?_
      refine tL 1 (some 33) ?_
      refine tL 2 (some 34) ?_
      refine tL 3 (some 35) ?_
      refine tL 5 (some 37) ?_
      refine tL 6 (some 38) ?_
      refine tL 7 (some 39) ?_
      refine tL 8 (some 40) ?_
      refine tL 9 (some 41) ?_
      refine wpAnyH_ready (rs := [4]) (by kernel_rfl) (by simp) ?_
      refine AllReadyH.cons (o := _) rfl (fun K hK => ?_) AllReadyH.nil
      go_simp
      refine (c_l2Word _ _).mono ?_; rintro e w' ⟨rfl, rfl⟩
      (try go_wp2_with fail)
      refine hK.out _ _ ?_ (fun hHeld => ?_)
      · exact ⟨keepc (by go_grown) hg a0, keepc (by go_grown) hg a1, keepc (by go_grown) hg b0, keepc (by go_grown) hg b1⟩
      clear hK K
      (try simp only [Act.put, List.setIfInBounds_toArray, List.set_cons_zero, List.set_cons_succ])
      refine tL 10 (some 42) ?_
      refine tL 11 (some 43) ?_
      refine tL 12 (some 44) ?_
      refine tL 13 (some 45) ?_
      refine tL 14 (some 46) ?_
      refine tL 15 (some 47) ?_
      refine tL 16 (some 48) ?_
      refine tL 17 (some 49) ?_
      refine wpAnyH_ready (rs := [18]) (by kernel_rfl) (by simp) ?_
      refine AllReadyH.cons (o := _) rfl (fun K hK => ?_) AllReadyH.nil
      go_simp
      refine (c_l2Word _ _).mono ?_; rintro e w' ⟨rfl, rfl⟩
      (try go_wp2_with fail)
      refine hK.out _ _ ?_ (fun hHeld => ?_)
      · exact ⟨keepc (by go_grown) hg a0, keepc (by go_grown) hg a1, keepc (by go_grown) hg b0, keepc (by go_grown) hg b1⟩
      clear hK K
      (try simp only [Act.put, List.setIfInBounds_toArray, List.set_cons_zero, List.set_cons_succ])
      refine tL 19 (some 51) ?_
      refine tL 20 (some 52) ?_
      refine wpAnyH_ready (rs := [21]) (by kernel_rfl) (by simp) ?_
      refine AllReadyH.cons (o := _) rfl (fun K hK => ?_) AllReadyH.nil
      go_simp
      refine hK.out _ _ ?_ (fun hHeld => ?_)
      · exact ⟨keepc (by go_grown) hg a0, keepc (by go_grown) hg a1, keepc (by go_grown) hg b0, keepc (by go_grown) hg b1⟩
      clear hK K
      (try simp only [Act.put, List.setIfInBounds_toArray, List.set_cons_zero, List.set_cons_succ])
      refine tL 22 (some 5) ?_
      refine wpAnyH_done (by kernel_rfl) ?_ _
      go_wp2
      refine bodyPost_ret (v := .tuple #[.agg #[.int .i64 0, .int .i64 aw], .bool false]) (by simp [results, Tryz.results90, go_sem]) rfl ?_
      exact res_no (by simp [kOk, namedB]; try omega) (by go_grown)
  · have q : decide (0 < ai) = false := by simpa using h1
    go_enter Tryz.func90, Tryz.ntmps90
    go_wp2_with fail
    refine wp_region_held_drew (S := (fun w' => w'.cell? ⟨g, 0, none⟩ = some (.int .i64 ai) ∧ w'.cell? ⟨g, 1, none⟩ = some (.int .i64 aw) ∧ w'.cell? ⟨g, 2, none⟩ = some (.int .i64 bi) ∧ w'.cell? ⟨g, 3, none⟩ = some (.int .i64 bw))) (by kernel_rfl) ?_ (fun hHeld => ?_)
    · exact ⟨keepc (by go_grown) hg a0, keepc (by go_grown) hg a1, keepc (by go_grown) hg b0, keepc (by go_grown) hg b1⟩
    refine tL 0 (some 32) ?_
    refine tL 1 (some 33) ?_
    refine tL 2 (some 34) ?_
    refine tL 3 (some 35) ?_
    refine tL 5 (some 37) ?_
    refine tL 6 (some 38) ?_
    refine tL 7 (some 39) ?_
    refine tL 8 (some 40) ?_
    refine tL 9 (some 41) ?_
    refine wpAnyH_ready (rs := [4]) (by kernel_rfl) (by simp) ?_
    refine AllReadyH.cons (o := _) rfl (fun K hK => ?_) AllReadyH.nil
    go_simp
    refine (c_l2Word _ _).mono ?_; rintro e w' ⟨rfl, rfl⟩
    (try go_wp2_with fail)
    refine hK.out _ _ ?_ (fun hHeld => ?_)
    · exact ⟨keepc (by go_grown) hg a0, keepc (by go_grown) hg a1, keepc (by go_grown) hg b0, keepc (by go_grown) hg b1⟩
    clear hK K
    (try simp only [Act.put, List.setIfInBounds_toArray, List.set_cons_zero, List.set_cons_succ])
    refine tL 10 (some 42) ?_
    refine tU 11 (some 43) ?_
    refine tU 12 (some 44) ?_
    refine tU 13 (some 45) ?_
    refine tU 14 (some 46) ?_
    refine tU 15 (some 47) ?_
    refine tU 16 (some 48) ?_
    refine tU 17 (some 49) ?_
    refine tU 18 (some 50) ?_
    refine tU 19 (some 51) ?_
    refine tL 20 (some 52) ?_
    refine wpAnyH_ready (rs := [21]) (by kernel_rfl) (by simp) ?_
    refine AllReadyH.cons (o := _) rfl (fun K hK => ?_) AllReadyH.nil
    go_simp
    refine hK.out _ _ ?_ (fun hHeld => ?_)
    · exact ⟨keepc (by go_grown) hg a0, keepc (by go_grown) hg a1, keepc (by go_grown) hg b0, keepc (by go_grown) hg b1⟩
    clear hK K
    (try simp only [Act.put, List.setIfInBounds_toArray, List.set_cons_zero, List.set_cons_succ])
    refine tL 22 (some 5) ?_
    refine wpAnyH_done (by kernel_rfl) ?_ _
    go_wp2
    refine bodyPost_ret (v := .tuple #[.agg #[.int .i64 0, .int .i64 aw], .bool false]) (by simp [results, Tryz.results90, go_sem]) rfl ?_
    exact res_no (by simp [kOk, namedB]; try omega) (by go_grown)
set_option maxRecDepth 100000 in
set_option maxHeartbeats 4000000 in
theorem c_res38 (x : ND) (hk : x.kind = 38) (a : Int × Int) (b : Int × Int) (c : Int × Int) (g cap : Nat) (w : World) (h : SortsAt w g [a, b, c]) :
    Calls Tryz.prog 90 #[.agg x.cells.toArray, .slice (some ⟨g, 0, none⟩) 3 cap] w (ResP x a b c w) := by
  obtain ⟨hg, h⟩ := h
  obtain ⟨a0, a1⟩ := h 0 (by simp)
  obtain ⟨b0, b1⟩ := h 1 (by simp)
  obtain ⟨c0, c1⟩ := h 2 (by simp)
  simp at a0 a1 b0 b1 c0 c1
  clear h
  obtain ⟨k, pa, pb, pc, n, m, si, sw, nm⟩ := x
  simp only [ND.cells] at *
  subst hk
  obtain ⟨ai, aw⟩ := a
  obtain ⟨bi, bw⟩ := b
  obtain ⟨ci, cw⟩ := c
  simp only at *
  by_cases h1 : 0 < ai
  · by_cases h2 : bi = 0
    · subst h2
      by_cases h3 : bw = ai
      · subst h3
        by_cases h4 : ci = 0
        · subst h4
          by_cases h5 : cw = aw
          · subst h5
            go_enter Tryz.func90, Tryz.ntmps90
            go_wp2_with fail
            refine wp_region_held_drew (S := (fun w' => w'.cell? ⟨g, 0, none⟩ = some (.int .i64 bw) ∧ w'.cell? ⟨g, 1, none⟩ = some (.int .i64 cw) ∧ w'.cell? ⟨g, 2, none⟩ = some (.int .i64 0) ∧ w'.cell? ⟨g, 3, none⟩ = some (.int .i64 bw) ∧ w'.cell? ⟨g, 4, none⟩ = some (.int .i64 0) ∧ w'.cell? ⟨g, 5, none⟩ = some (.int .i64 cw))) (by kernel_rfl) ?_ (fun hHeld => ?_)
            · exact ⟨keepc (by go_grown) hg a0, keepc (by go_grown) hg a1, keepc (by go_grown) hg b0, keepc (by go_grown) hg b1, keepc (by go_grown) hg c0, keepc (by go_grown) hg c1⟩
            refine tL 0 (some 55) ?_
            refine tL 1 (some 56) ?_
            refine tL 2 (some 57) ?_
            refine tL 3 (some 58) ?_
            refine tL 4 (some 59) ?_
            refine tL 5 (some 60) ?_
            refine tL 6 (some 61) ?_
            refine tL 7 (some 62) ?_
            refine tL 8 (some 63) ?_
            refine tL 9 (some 64) ?_
            refine tL 10 (some 65) ?_
            refine tL 11 (some 66) ?_
            refine tL 12 (some 67) ?_
            refine tL 13 (some 68) ?_
            refine tL 14 (some 69) ?_
            refine tL 15 (some 70) ?_
            refine wpAnyH_ready (rs := [16]) (by kernel_rfl) (by simp) ?_
            refine AllReadyH.cons (o := _) rfl (fun K hK => ?_) AllReadyH.nil
            go_simp
            refine (c_l2Word _ _).mono ?_; rintro e w' ⟨rfl, rfl⟩
            (try go_wp2_with fail)
            refine hK.out _ _ ?_ (fun hHeld => ?_)
            · exact ⟨keepc (by go_grown) hg a0, keepc (by go_grown) hg a1, keepc (by go_grown) hg b0, keepc (by go_grown) hg b1, keepc (by go_grown) hg c0, keepc (by go_grown) hg c1⟩
            clear hK K
            (try simp only [Act.put, List.setIfInBounds_toArray, List.set_cons_zero, List.set_cons_succ])
            refine tL 17 (some 72) ?_
            refine tL 18 (some 73) ?_
            refine tL 19 (some 74) ?_
            refine tL 20 (some 75) ?_
            refine tL 21 (some 76) ?_
            refine tL 22 (some 77) ?_
            refine tL 23 (some 78) ?_
            refine tL 24 (some 79) ?_
            refine tL 25 (some 80) ?_
            refine tL 26 (some 81) ?_
            refine wpAnyH_ready (rs := [27]) (by kernel_rfl) (by simp) ?_
            refine AllReadyH.cons (o := _) rfl (fun K hK => ?_) AllReadyH.nil
            go_simp
            refine (c_l2Word _ _).mono ?_; rintro e w' ⟨rfl, rfl⟩
            (try go_wp2_with fail)
            refine hK.out _ _ ?_ (fun hHeld => ?_)
            · exact ⟨keepc (by go_grown) hg a0, keepc (by go_grown) hg a1, keepc (by go_grown) hg b0, keepc (by go_grown) hg b1, keepc (by go_grown) hg c0, keepc (by go_grown) hg c1⟩
            clear hK K
            (try simp only [Act.put, List.setIfInBounds_toArray, List.set_cons_zero, List.set_cons_succ])
            refine tL 28 (some 83) ?_
            refine tL 29 (some 84) ?_
            refine wpAnyH_ready (rs := [30]) (by kernel_rfl) (by simp) ?_
            refine AllReadyH.cons (o := _) rfl (fun K hK => ?_) AllReadyH.nil
            go_simp
            refine hK.out _ _ ?_ (fun hHeld => ?_)
            · exact ⟨keepc (by go_grown) hg a0, keepc (by go_grown) hg a1, keepc (by go_grown) hg b0, keepc (by go_grown) hg b1, keepc (by go_grown) hg c0, keepc (by go_grown) hg c1⟩
            clear hK K
            (try simp only [Act.put, List.setIfInBounds_toArray, List.set_cons_zero, List.set_cons_succ])
            refine tL 31 (some 5) ?_
            refine wpAnyH_done (by kernel_rfl) ?_ _
            go_wp2
            refine bodyPost_ret (v := .tuple #[.agg #[.int .i64 bw, .int .i64 cw], .bool true]) (by simp [results, Tryz.results90, go_sem]) rfl ?_
            exact res_yes (by simp [kOk, namedB]; try omega) (by simp [kSort, namedB]) (by go_grown)
          · have q : (cw == aw) = false := by simpa using h5
            go_enter Tryz.func90, Tryz.ntmps90
            go_wp2_with fail
            refine wp_region_held_drew (S := (fun w' => w'.cell? ⟨g, 0, none⟩ = some (.int .i64 bw) ∧ w'.cell? ⟨g, 1, none⟩ = some (.int .i64 aw) ∧ w'.cell? ⟨g, 2, none⟩ = some (.int .i64 0) ∧ w'.cell? ⟨g, 3, none⟩ = some (.int .i64 bw) ∧ w'.cell? ⟨g, 4, none⟩ = some (.int .i64 0) ∧ w'.cell? ⟨g, 5, none⟩ = some (.int .i64 cw))) (by kernel_rfl) ?_ (fun hHeld => ?_)
            · exact ⟨keepc (by go_grown) hg a0, keepc (by go_grown) hg a1, keepc (by go_grown) hg b0, keepc (by go_grown) hg b1, keepc (by go_grown) hg c0, keepc (by go_grown) hg c1⟩
            refine tL 0 (some 55) ?_
            refine tL 1 (some 56) ?_
            refine tL 2 (some 57) ?_
            refine tL 3 (some 58) ?_
            refine tL 4 (some 59) ?_
            refine tL 5 (some 60) ?_
            refine tL 6 (some 61) ?_
            refine tL 7 (some 62) ?_
            refine tL 8 (some 63) ?_
            refine tL 9 (some 64) ?_
            refine tL 10 (some 65) ?_
            refine tL 11 (some 66) ?_
            refine tL 12 (some 67) ?_
            refine tL 13 (some 68) ?_
            refine tL 14 (some 69) ?_
            refine tL 15 (some 70) ?_
            refine wpAnyH_ready (rs := [16]) (by kernel_rfl) (by simp) ?_
            refine AllReadyH.cons (o := _) rfl (fun K hK => ?_) AllReadyH.nil
            go_simp
            refine (c_l2Word _ _).mono ?_; rintro e w' ⟨rfl, rfl⟩
            (try go_wp2_with fail)
            refine hK.out _ _ ?_ (fun hHeld => ?_)
            · exact ⟨keepc (by go_grown) hg a0, keepc (by go_grown) hg a1, keepc (by go_grown) hg b0, keepc (by go_grown) hg b1, keepc (by go_grown) hg c0, keepc (by go_grown) hg c1⟩
            clear hK K
            (try simp only [Act.put, List.setIfInBounds_toArray, List.set_cons_zero, List.set_cons_succ])
            refine tL 17 (some 72) ?_
            refine tL 18 (some 73) ?_
            refine tL 19 (some 74) ?_
            refine tL 20 (some 75) ?_
            refine tL 21 (some 76) ?_
            refine tL 22 (some 77) ?_
            refine tL 23 (some 78) ?_
            refine tL 24 (some 79) ?_
            refine tL 25 (some 80) ?_
            refine tL 26 (some 81) ?_
            refine wpAnyH_ready (rs := [27]) (by kernel_rfl) (by simp) ?_
            refine AllReadyH.cons (o := _) rfl (fun K hK => ?_) AllReadyH.nil
            go_simp
            refine (c_l2Word _ _).mono ?_; rintro e w' ⟨rfl, rfl⟩
            (try go_wp2_with fail)
            refine hK.out _ _ ?_ (fun hHeld => ?_)
            · exact ⟨keepc (by go_grown) hg a0, keepc (by go_grown) hg a1, keepc (by go_grown) hg b0, keepc (by go_grown) hg b1, keepc (by go_grown) hg c0, keepc (by go_grown) hg c1⟩
            clear hK K
            (try simp only [Act.put, List.setIfInBounds_toArray, List.set_cons_zero, List.set_cons_succ])
            refine tL 28 (some 83) ?_
            refine tL 29 (some 84) ?_
            refine wpAnyH_ready (rs := [30]) (by kernel_rfl) (by simp) ?_
            refine AllReadyH.cons (o := _) rfl (fun K hK => ?_) AllReadyH.nil
            go_simp
            refine hK.out _ _ ?_ (fun hHeld => ?_)
            · exact ⟨keepc (by go_grown) hg a0, keepc (by go_grown) hg a1, keepc (by go_grown) hg b0, keepc (by go_grown) hg b1, keepc (by go_grown) hg c0, keepc (by go_grown) hg c1⟩
            clear hK K
            (try simp only [Act.put, List.setIfInBounds_toArray, List.set_cons_zero, List.set_cons_succ])
            refine tL 31 (some 5) ?_
            refine wpAnyH_done (by kernel_rfl) ?_ _
            go_wp2
            refine bodyPost_ret (v := .tuple #[.agg #[.int .i64 bw, .int .i64 aw], .bool false]) (by simp [results, Tryz.results90, go_sem]) rfl ?_
            exact res_no (by simp [kOk, namedB]; try omega) (by go_grown)
        · have q : (ci == 0) = false := by simpa using h4
          go_enter Tryz.func90, Tryz.ntmps90
          go_wp2_with fail
          refine wp_region_held_drew (S := (fun w' => w'.cell? ⟨g, 0, none⟩ = some (.int .i64 bw) ∧ w'.cell? ⟨g, 1, none⟩ = some (.int .i64 aw) ∧ w'.cell? ⟨g, 2, none⟩ = some (.int .i64 0) ∧ w'.cell? ⟨g, 3, none⟩ = some (.int .i64 bw) ∧ w'.cell? ⟨g, 4, none⟩ = some (.int .i64 ci) ∧ w'.cell? ⟨g, 5, none⟩ = some (.int .i64 cw))) (by kernel_rfl) ?_ (fun hHeld => ?_)
          · exact ⟨keepc (by go_grown) hg a0, keepc (by go_grown) hg a1, keepc (by go_grown) hg b0, keepc (by go_grown) hg b1, keepc (by go_grown) hg c0, keepc (by go_grown) hg c1⟩
          refine tL 0 (some 55) ?_
          refine tL 1 (some 56) ?_
          refine tL 2 (some 57) ?_
          refine tL 3 (some 58) ?_
          refine tL 4 (some 59) ?_
          refine tL 5 (some 60) ?_
          refine tL 6 (some 61) ?_
          refine tL 7 (some 62) ?_
          refine tL 8 (some 63) ?_
          refine tL 9 (some 64) ?_
          refine tL 10 (some 65) ?_
          refine tL 11 (some 66) ?_
          refine tL 12 (some 67) ?_
          refine tL 13 (some 68) ?_
          refine tL 14 (some 69) ?_
          refine tL 15 (some 70) ?_
          refine wpAnyH_ready (rs := [16]) (by kernel_rfl) (by simp) ?_
          refine AllReadyH.cons (o := _) rfl (fun K hK => ?_) AllReadyH.nil
          go_simp
          refine (c_l2Word _ _).mono ?_; rintro e w' ⟨rfl, rfl⟩
          (try go_wp2_with fail)
          refine hK.out _ _ ?_ (fun hHeld => ?_)
          · exact ⟨keepc (by go_grown) hg a0, keepc (by go_grown) hg a1, keepc (by go_grown) hg b0, keepc (by go_grown) hg b1, keepc (by go_grown) hg c0, keepc (by go_grown) hg c1⟩
          clear hK K
          (try simp only [Act.put, List.setIfInBounds_toArray, List.set_cons_zero, List.set_cons_succ])
          refine tL 17 (some 72) ?_
          refine tL 18 (some 73) ?_
          refine tL 19 (some 74) ?_
          refine tL 20 (some 75) ?_
          refine tL 21 (some 76) ?_
          refine tL 22 (some 77) ?_
          refine tL 23 (some 78) ?_
          refine tL 24 (some 79) ?_
          refine tL 25 (some 80) ?_
          refine tL 26 (some 81) ?_
          refine wpAnyH_ready (rs := [27]) (by kernel_rfl) (by simp) ?_
          refine AllReadyH.cons (o := _) rfl (fun K hK => ?_) AllReadyH.nil
          go_simp
          refine (c_l2Word _ _).mono ?_; rintro e w' ⟨rfl, rfl⟩
          (try go_wp2_with fail)
          refine hK.out _ _ ?_ (fun hHeld => ?_)
          · exact ⟨keepc (by go_grown) hg a0, keepc (by go_grown) hg a1, keepc (by go_grown) hg b0, keepc (by go_grown) hg b1, keepc (by go_grown) hg c0, keepc (by go_grown) hg c1⟩
          clear hK K
          (try simp only [Act.put, List.setIfInBounds_toArray, List.set_cons_zero, List.set_cons_succ])
          refine tL 28 (some 83) ?_
          refine tL 29 (some 84) ?_
          refine wpAnyH_ready (rs := [30]) (by kernel_rfl) (by simp) ?_
          refine AllReadyH.cons (o := _) rfl (fun K hK => ?_) AllReadyH.nil
          go_simp
          refine hK.out _ _ ?_ (fun hHeld => ?_)
          · exact ⟨keepc (by go_grown) hg a0, keepc (by go_grown) hg a1, keepc (by go_grown) hg b0, keepc (by go_grown) hg b1, keepc (by go_grown) hg c0, keepc (by go_grown) hg c1⟩
          clear hK K
          (try simp only [Act.put, List.setIfInBounds_toArray, List.set_cons_zero, List.set_cons_succ])
          refine tL 31 (some 5) ?_
          refine wpAnyH_done (by kernel_rfl) ?_ _
          go_wp2
          refine bodyPost_ret (v := .tuple #[.agg #[.int .i64 bw, .int .i64 aw], .bool false]) (by simp [results, Tryz.results90, go_sem]) rfl ?_
          exact res_no (by simp [kOk, namedB]; try omega) (by go_grown)
      · have q : (bw == ai) = false := by simpa using h3
        go_enter Tryz.func90, Tryz.ntmps90
        go_wp2_with fail
        refine wp_region_held_drew (S := (fun w' => w'.cell? ⟨g, 0, none⟩ = some (.int .i64 ai) ∧ w'.cell? ⟨g, 1, none⟩ = some (.int .i64 aw) ∧ w'.cell? ⟨g, 2, none⟩ = some (.int .i64 0) ∧ w'.cell? ⟨g, 3, none⟩ = some (.int .i64 bw) ∧ w'.cell? ⟨g, 4, none⟩ = some (.int .i64 ci) ∧ w'.cell? ⟨g, 5, none⟩ = some (.int .i64 cw))) (by kernel_rfl) ?_ (fun hHeld => ?_)
        · exact ⟨keepc (by go_grown) hg a0, keepc (by go_grown) hg a1, keepc (by go_grown) hg b0, keepc (by go_grown) hg b1, keepc (by go_grown) hg c0, keepc (by go_grown) hg c1⟩
        refine tL 0 (some 55) ?_
        refine tL 1 (some 56) ?_
        refine tL 2 (some 57) ?_
        refine tL 3 (some 58) ?_
        refine tL 4 (some 59) ?_
        refine tL 5 (some 60) ?_
        refine tL 6 (some 61) ?_
        refine tL 7 (some 62) ?_
        refine tL 8 (some 63) ?_
        refine tL 9 (some 64) ?_
        refine tL 10 (some 65) ?_
        refine tL 11 (some 66) ?_
        refine tL 12 (some 67) ?_
        refine tL 13 (some 68) ?_
        refine tL 14 (some 69) ?_
        refine tL 15 (some 70) ?_
        refine wpAnyH_ready (rs := [16]) (by kernel_rfl) (by simp) ?_
        refine AllReadyH.cons (o := _) rfl (fun K hK => ?_) AllReadyH.nil
        go_simp
        refine (c_l2Word _ _).mono ?_; rintro e w' ⟨rfl, rfl⟩
        (try go_wp2_with fail)
        refine hK.out _ _ ?_ (fun hHeld => ?_)
        · exact ⟨keepc (by go_grown) hg a0, keepc (by go_grown) hg a1, keepc (by go_grown) hg b0, keepc (by go_grown) hg b1, keepc (by go_grown) hg c0, keepc (by go_grown) hg c1⟩
        clear hK K
        (try simp only [Act.put, List.setIfInBounds_toArray, List.set_cons_zero, List.set_cons_succ])
        refine tL 17 (some 72) ?_
        refine tL 18 (some 73) ?_
        refine tL 19 (some 74) ?_
        refine tU 20 (some 75) ?_
        refine tU 21 (some 76) ?_
        refine tU 22 (some 77) ?_
        refine tU 23 (some 78) ?_
        refine tU 24 (some 79) ?_
        refine tU 25 (some 80) ?_
        refine tU 26 (some 81) ?_
        refine tU 27 (some 82) ?_
        refine tU 28 (some 83) ?_
        refine tL 29 (some 84) ?_
        refine wpAnyH_ready (rs := [30]) (by kernel_rfl) (by simp) ?_
        refine AllReadyH.cons (o := _) rfl (fun K hK => ?_) AllReadyH.nil
        go_simp
        refine hK.out _ _ ?_ (fun hHeld => ?_)
        · exact ⟨keepc (by go_grown) hg a0, keepc (by go_grown) hg a1, keepc (by go_grown) hg b0, keepc (by go_grown) hg b1, keepc (by go_grown) hg c0, keepc (by go_grown) hg c1⟩
        clear hK K
        (try simp only [Act.put, List.setIfInBounds_toArray, List.set_cons_zero, List.set_cons_succ])
        refine tL 31 (some 5) ?_
        refine wpAnyH_done (by kernel_rfl) ?_ _
        go_wp2
        refine bodyPost_ret (v := .tuple #[.agg #[.int .i64 ai, .int .i64 aw], .bool false]) (by simp [results, Tryz.results90, go_sem]) rfl ?_
        exact res_no (by simp [kOk, namedB]; try omega) (by go_grown)
    · have q : (bi == 0) = false := by simpa using h2
      go_enter Tryz.func90, Tryz.ntmps90
      go_wp2_with fail
      refine wp_region_held_drew (S := (fun w' => w'.cell? ⟨g, 0, none⟩ = some (.int .i64 ai) ∧ w'.cell? ⟨g, 1, none⟩ = some (.int .i64 aw) ∧ w'.cell? ⟨g, 2, none⟩ = some (.int .i64 bi) ∧ w'.cell? ⟨g, 3, none⟩ = some (.int .i64 bw) ∧ w'.cell? ⟨g, 4, none⟩ = some (.int .i64 ci) ∧ w'.cell? ⟨g, 5, none⟩ = some (.int .i64 cw))) (by kernel_rfl) ?_ (fun hHeld => ?_)
      · exact ⟨keepc (by go_grown) hg a0, keepc (by go_grown) hg a1, keepc (by go_grown) hg b0, keepc (by go_grown) hg b1, keepc (by go_grown) hg c0, keepc (by go_grown) hg c1⟩
      refine tL 0 (some 55) ?_
      refine tL 1 (some 56) ?_
      refine tL 2 (some 57) ?_
      refine tL 3 (some 58) ?_
      refine tL 4 (some 59) ?_
      refine tL 5 (some 60) ?_
      refine tL 6 (some 61) ?_
      refine tL 7 (some 62) ?_
      refine tL 8 (some 63) ?_
      refine tL 9 (some 64) ?_
      refine tL 10 (some 65) ?_
      refine tL 11 (some 66) ?_
      refine tL 12 (some 67) ?_
      refine tL 13 (some 68) ?_
      refine tL 14 (some 69) ?_
      refine tL 15 (some 70) ?_
      refine wpAnyH_ready (rs := [16]) (by kernel_rfl) (by simp) ?_
      refine AllReadyH.cons (o := _) rfl (fun K hK => ?_) AllReadyH.nil
      go_simp
      refine (c_l2Word _ _).mono ?_; rintro e w' ⟨rfl, rfl⟩
      (try go_wp2_with fail)
      refine hK.out _ _ ?_ (fun hHeld => ?_)
      · exact ⟨keepc (by go_grown) hg a0, keepc (by go_grown) hg a1, keepc (by go_grown) hg b0, keepc (by go_grown) hg b1, keepc (by go_grown) hg c0, keepc (by go_grown) hg c1⟩
      clear hK K
      (try simp only [Act.put, List.setIfInBounds_toArray, List.set_cons_zero, List.set_cons_succ])
      refine tL 17 (some 72) ?_
      refine tL 18 (some 73) ?_
      refine tL 19 (some 74) ?_
      refine tU 20 (some 75) ?_
      refine tU 21 (some 76) ?_
      refine tU 22 (some 77) ?_
      refine tU 23 (some 78) ?_
      refine tU 24 (some 79) ?_
      refine tU 25 (some 80) ?_
      refine tU 26 (some 81) ?_
      refine tU 27 (some 82) ?_
      refine tU 28 (some 83) ?_
      refine tL 29 (some 84) ?_
      refine wpAnyH_ready (rs := [30]) (by kernel_rfl) (by simp) ?_
      refine AllReadyH.cons (o := _) rfl (fun K hK => ?_) AllReadyH.nil
      go_simp
      refine hK.out _ _ ?_ (fun hHeld => ?_)
      · exact ⟨keepc (by go_grown) hg a0, keepc (by go_grown) hg a1, keepc (by go_grown) hg b0, keepc (by go_grown) hg b1, keepc (by go_grown) hg c0, keepc (by go_grown) hg c1⟩
      clear hK K
      (try simp only [Act.put, List.setIfInBounds_toArray, List.set_cons_zero, List.set_cons_succ])
      refine tL 31 (some 5) ?_
      refine wpAnyH_done (by kernel_rfl) ?_ _
      go_wp2
      refine bodyPost_ret (v := .tuple #[.agg #[.int .i64 ai, .int .i64 aw], .bool false]) (by simp [results, Tryz.results90, go_sem]) rfl ?_
      exact res_no (by simp [kOk, namedB]; try omega) (by go_grown)
  · have q : decide (0 < ai) = false := by simpa using h1
    go_enter Tryz.func90, Tryz.ntmps90
    go_wp2_with fail
    refine wp_region_held_drew (S := (fun w' => w'.cell? ⟨g, 0, none⟩ = some (.int .i64 ai) ∧ w'.cell? ⟨g, 1, none⟩ = some (.int .i64 aw) ∧ w'.cell? ⟨g, 2, none⟩ = some (.int .i64 bi) ∧ w'.cell? ⟨g, 3, none⟩ = some (.int .i64 bw) ∧ w'.cell? ⟨g, 4, none⟩ = some (.int .i64 ci) ∧ w'.cell? ⟨g, 5, none⟩ = some (.int .i64 cw))) (by kernel_rfl) ?_ (fun hHeld => ?_)
    · exact ⟨keepc (by go_grown) hg a0, keepc (by go_grown) hg a1, keepc (by go_grown) hg b0, keepc (by go_grown) hg b1, keepc (by go_grown) hg c0, keepc (by go_grown) hg c1⟩
    refine tL 0 (some 55) ?_
    refine tL 1 (some 56) ?_
    refine tL 2 (some 57) ?_
    refine tL 3 (some 58) ?_
    refine tL 4 (some 59) ?_
    refine tL 5 (some 60) ?_
    refine tL 6 (some 61) ?_
    refine tL 7 (some 62) ?_
    refine tL 8 (some 63) ?_
    refine tU 9 (some 64) ?_
    refine tU 10 (some 65) ?_
    refine tU 11 (some 66) ?_
    refine tU 12 (some 67) ?_
    refine tU 13 (some 68) ?_
    refine tU 14 (some 69) ?_
    refine tU 15 (some 70) ?_
    refine tU 16 (some 71) ?_
    refine tU 17 (some 72) ?_
    refine tL 18 (some 73) ?_
    refine tL 19 (some 74) ?_
    refine tU 20 (some 75) ?_
    refine tU 21 (some 76) ?_
    refine tU 22 (some 77) ?_
    refine tU 23 (some 78) ?_
    refine tU 24 (some 79) ?_
    refine tU 25 (some 80) ?_
    refine tU 26 (some 81) ?_
    refine tU 27 (some 82) ?_
    refine tU 28 (some 83) ?_
    refine tL 29 (some 84) ?_
    refine wpAnyH_ready (rs := [30]) (by kernel_rfl) (by simp) ?_
    refine AllReadyH.cons (o := _) rfl (fun K hK => ?_) AllReadyH.nil
    go_simp
    refine hK.out _ _ ?_ (fun hHeld => ?_)
    · exact ⟨keepc (by go_grown) hg a0, keepc (by go_grown) hg a1, keepc (by go_grown) hg b0, keepc (by go_grown) hg b1, keepc (by go_grown) hg c0, keepc (by go_grown) hg c1⟩
    clear hK K
    (try simp only [Act.put, List.setIfInBounds_toArray, List.set_cons_zero, List.set_cons_succ])
    refine tL 31 (some 5) ?_
    refine wpAnyH_done (by kernel_rfl) ?_ _
    go_wp2
    refine bodyPost_ret (v := .tuple #[.agg #[.int .i64 ai, .int .i64 aw], .bool false]) (by simp [results, Tryz.results90, go_sem]) rfl ?_
    exact res_no (by simp [kOk, namedB]; try omega) (by go_grown)
end Go.Proofs.YtbkcecilbpngcaaGreat
