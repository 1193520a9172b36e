/-
  The width of what a kind makes of words; the program's look at an array's index.
-/
import Derived.Test.YtbkcecilbpngcaaGreatRows
import Derived.Test.YtbkcecilbpngcaaGreatPaA
import Derived.Test.YtbkcecilbpngcaaGreatNodeM
import Derived.Test.YtbkcecilbpngcaaGreatNames
import Derived.Test.YtbkcecilbpngcaaGreatFieldsS
import Derived.Test.YtbkcecilbpngcaaGreatNodeL
import Derived.Test.YtbkcecilbpngcaaGreatTwo
import Derived.Test.YtbkcecilbpngcaaGreatResP
import Derived.Test.YtbkcecilbpngcaaGreatNSortI
import Derived.WalkKit
import Derived.ProofKit
import Derived.OpenShut
import Derived.WalkSpells
import Derived.WalkLawsBesides
import Derived.Outline
import Derived.BigQuiet
import Derived.Handy
import Derived.LoopTactic
import Derived.Deep.Light
import Derived.Deep.RegionWith
import Derived.Deep.RegionHeld3
import Derived.Lib.Hide
namespace Go.Proofs.YtbkcecilbpngcaaGreat
open Go.ChangeShapes Go.WideShapes Go.ChangeAt Go.RowKit
set_option linter.unusedVariables false

theorem grow_any (n a more : Int) (s : Bool) : (growR n a more s).2 = (growR n a more false).2 := by unfold growR; split <;> rfl
/-- What kindWidth tells. -/
def KWP (x : ND) (u v : Int) (w : World) (e : Ending) (w' : World) : Prop := e = .returned (.tuple #[.int .i64 (kWidth x u v).1, .bool (kWidth x u v).2]) ∧ Below w.heap.size w w'
theorem kwp {x : ND} {u v : Int} {w w' : World} {r : Int × Bool} (h : kWidth x u v = r) (hb : Below w.heap.size w w') : KWP x u v w (.returned (.tuple #[.int .i64 r.1, .bool r.2])) w' := ⟨by rw [h], hb⟩
theorem below_boxed1 {w w1 : World} {o : Obj} (h : Below (w.alloc o).heap.size (w.alloc o) w1) : Below w.heap.size w w1 :=
  ((Below.refl _ _).alloc (Nat.le_refl _) _).trans (h.mono (Nat.le_of_lt (alloc_ltS _ _)))
set_option maxRecDepth 100000 in
set_option maxHeartbeats 2000000 in
theorem c_kw29 (x : ND) (hk : x.kind = 29) (u v : Int) (w : World) :
    Calls Tryz.prog 120 #[.agg x.cells.toArray, .int .i64 u, .int .i64 v] w (KWP x u v w) := by
  have HK := Go.Lib.hid (show kWidth x u v = _ from by unfold kWidth; rw [if_pos hk])
  obtain ⟨k, pa, pb, pc, n, m, si, sw, nm⟩ := x
  simp only [ND.cells] at *
  subst hk
  go_enter Tryz.func120, Tryz.ntmps120
  go_wp2_with (first | (go_at_call 146; refine (c_WordJoinI _ _ _ _ _).mono ?_; rintro e w1 ⟨rfl, rfl⟩))
  go_ret2
  exact kwp HK.out (by go_grown)
set_option maxRecDepth 100000 in
set_option maxHeartbeats 2000000 in
theorem c_kw30 (x : ND) (hk : x.kind = 30) (u v : Int) (w : World) :
    Calls Tryz.prog 120 #[.agg x.cells.toArray, .int .i64 u, .int .i64 v] w (KWP x u v w) := by
  have HK := Go.Lib.hid (show kWidth x u v = _ from by unfold kWidth; rw [if_neg (by omega), if_pos hk])
  obtain ⟨k, pa, pb, pc, n, m, si, sw, nm⟩ := x
  simp only [ND.cells] at *
  subst hk
  go_enter Tryz.func120, Tryz.ntmps120
  go_wp2_with (first | (go_at_call 147; refine (c_WordSliceI _ _ _ _ _).mono ?_; rintro e w1 ⟨rfl, rfl⟩))
  go_ret2
  exact kwp HK.out (by go_grown)
set_option maxRecDepth 100000 in
set_option maxHeartbeats 2000000 in
theorem c_kw31 (x : ND) (hk : x.kind = 31) (u v : Int) (w : World) :
    Calls Tryz.prog 120 #[.agg x.cells.toArray, .int .i64 u, .int .i64 v] w (KWP x u v w) := by
  have HK := Go.Lib.hid (show kWidth x u v = _ from (show kWidth x u v = (growR u 0 x.n false).2 by unfold kWidth; rw [if_neg (by omega), if_neg (by omega), if_pos (by omega), grow_any u 0 x.n false]))
  obtain ⟨k, pa, pb, pc, n, m, si, sw, nm⟩ := x
  simp only [ND.cells] at *
  subst hk
  go_enter Tryz.func120, Tryz.ntmps120
  go_wp2_with (first | (go_at_call 148; refine (c_WordGrowI _ _ _ _ _).mono ?_; rintro e w1 ⟨rfl, rfl⟩))
  go_ret2
  exact kwp HK.out (by go_grown)
set_option maxRecDepth 100000 in
set_option maxHeartbeats 2000000 in
theorem c_kw32 (x : ND) (hk : x.kind = 32) (u v : Int) (w : World) :
    Calls Tryz.prog 120 #[.agg x.cells.toArray, .int .i64 u, .int .i64 v] w (KWP x u v w) := by
  have HK := Go.Lib.hid (show kWidth x u v = _ from (show kWidth x u v = (growR u 0 x.n true).2 by unfold kWidth; rw [if_neg (by omega), if_neg (by omega), if_pos (by omega), grow_any u 0 x.n true]))
  obtain ⟨k, pa, pb, pc, n, m, si, sw, nm⟩ := x
  simp only [ND.cells] at *
  subst hk
  go_enter Tryz.func120, Tryz.ntmps120
  go_wp2_with (first | (go_at_call 148; refine (c_WordGrowI _ _ _ _ _).mono ?_; rintro e w1 ⟨rfl, rfl⟩))
  go_ret2
  exact kwp HK.out (by go_grown)
set_option maxRecDepth 100000 in
set_option maxHeartbeats 2000000 in
theorem c_kw1 (x : ND) (hk : x.kind = 1) (u v : Int) (w : World) :
    Calls Tryz.prog 120 #[.agg x.cells.toArray, .int .i64 u, .int .i64 v] w (KWP x u v w) := by
  have HK := Go.Lib.hid (show kWidth x u v = _ from (show kWidth x u v = (oneR 1 u 0).2 by unfold kWidth; rw [if_neg (by omega), if_neg (by omega), if_neg (by omega), if_pos (by omega), hk]))
  obtain ⟨k, pa, pb, pc, n, m, si, sw, nm⟩ := x
  simp only [ND.cells] at *
  subst hk
  go_enter Tryz.func120, Tryz.ntmps120
  go_wp2_with (first | (go_at_call 149; refine (c_WordOneI _ _ _ _).mono ?_; rintro e w1 ⟨rfl, hB⟩))
  go_ret2
  exact kwp HK.out ((below_boxed1 hB))
set_option maxRecDepth 100000 in
set_option maxHeartbeats 2000000 in
theorem c_kw2 (x : ND) (hk : x.kind = 2) (u v : Int) (w : World) :
    Calls Tryz.prog 120 #[.agg x.cells.toArray, .int .i64 u, .int .i64 v] w (KWP x u v w) := by
  have HK := Go.Lib.hid (show kWidth x u v = _ from (show kWidth x u v = (oneR 2 u 0).2 by unfold kWidth; rw [if_neg (by omega), if_neg (by omega), if_neg (by omega), if_pos (by omega), hk]))
  obtain ⟨k, pa, pb, pc, n, m, si, sw, nm⟩ := x
  simp only [ND.cells] at *
  subst hk
  go_enter Tryz.func120, Tryz.ntmps120
  go_wp2_with (first | (go_at_call 149; refine (c_WordOneI _ _ _ _).mono ?_; rintro e w1 ⟨rfl, hB⟩))
  go_ret2
  exact kwp HK.out ((below_boxed1 hB))
set_option maxRecDepth 100000 in
set_option maxHeartbeats 2000000 in
theorem c_kw3 (x : ND) (hk : x.kind = 3) (u v : Int) (w : World) :
    Calls Tryz.prog 120 #[.agg x.cells.toArray, .int .i64 u, .int .i64 v] w (KWP x u v w) := by
  have HK := Go.Lib.hid (show kWidth x u v = _ from (show kWidth x u v = (oneR 3 u 0).2 by unfold kWidth; rw [if_neg (by omega), if_neg (by omega), if_neg (by omega), if_pos (by omega), hk]))
  obtain ⟨k, pa, pb, pc, n, m, si, sw, nm⟩ := x
  simp only [ND.cells] at *
  subst hk
  go_enter Tryz.func120, Tryz.ntmps120
  go_wp2_with (first | (go_at_call 149; refine (c_WordOneI _ _ _ _).mono ?_; rintro e w1 ⟨rfl, hB⟩))
  go_ret2
  exact kwp HK.out ((below_boxed1 hB))
set_option maxRecDepth 100000 in
set_option maxHeartbeats 2000000 in
theorem c_kw4 (x : ND) (hk : x.kind = 4) (u v : Int) (w : World) :
    Calls Tryz.prog 120 #[.agg x.cells.toArray, .int .i64 u, .int .i64 v] w (KWP x u v w) := by
  have HK := Go.Lib.hid (show kWidth x u v = _ from (show kWidth x u v = (oneR 4 u 0).2 by unfold kWidth; rw [if_neg (by omega), if_neg (by omega), if_neg (by omega), if_pos (by omega), hk]))
  obtain ⟨k, pa, pb, pc, n, m, si, sw, nm⟩ := x
  simp only [ND.cells] at *
  subst hk
  go_enter Tryz.func120, Tryz.ntmps120
  go_wp2_with (first | (go_at_call 149; refine (c_WordOneI _ _ _ _).mono ?_; rintro e w1 ⟨rfl, hB⟩))
  go_ret2
  exact kwp HK.out ((below_boxed1 hB))
set_option maxRecDepth 100000 in
set_option maxHeartbeats 2000000 in
theorem c_kw5 (x : ND) (hk : x.kind = 5) (u v : Int) (w : World) :
    Calls Tryz.prog 120 #[.agg x.cells.toArray, .int .i64 u, .int .i64 v] w (KWP x u v w) := by
  have HK := Go.Lib.hid (show kWidth x u v = _ from (show kWidth x u v = (oneR 5 u 0).2 by unfold kWidth; rw [if_neg (by omega), if_neg (by omega), if_neg (by omega), if_pos (by omega), hk]))
  obtain ⟨k, pa, pb, pc, n, m, si, sw, nm⟩ := x
  simp only [ND.cells] at *
  subst hk
  go_enter Tryz.func120, Tryz.ntmps120
  go_wp2_with (first | (go_at_call 149; refine (c_WordOneI _ _ _ _).mono ?_; rintro e w1 ⟨rfl, hB⟩))
  go_ret2
  exact kwp HK.out ((below_boxed1 hB))
set_option maxRecDepth 100000 in
set_option maxHeartbeats 2000000 in
theorem c_kwTwo (x : ND) (hk1 : 6 ≤ x.kind) (hk2 : x.kind ≤ 28) (u v : Int) (w : World) :
    Calls Tryz.prog 120 #[.agg x.cells.toArray, .int .i64 u, .int .i64 v] w (KWP x u v w) := by
  have HK := Go.Lib.hid (show kWidth x u v = ((twoR x.kind u 0 0).2.1, (twoR x.kind u 0 0).2.2 && decide (u = v)) by unfold kWidth; rw [if_neg (by omega), if_neg (by omega), if_neg (by omega), if_neg (by omega)])
  obtain ⟨k, pa, pb, pc, n, m, si, sw, nm⟩ := x
  simp only [ND.cells] at *
  have e29 : (k == 29) = false := by simp; omega
  have e30 : (k == 30) = false := by simp; omega
  have e31 : (k == 31) = false := by simp; omega
  have e32 : (k == 32) = false := by simp; omega
  have e1 : (k == 1) = false := by simp; omega
  have e2 : (k == 2) = false := by simp; omega
  have e3 : (k == 3) = false := by simp; omega
  have e4 : (k == 4) = false := by simp; omega
  have e5 : (k == 5) = false := by simp; omega
  by_cases hok : (twoR k u 0 0).2.2 = true
  · by_cases huv : u = v
    · subst huv
      go_enter Tryz.func120, Tryz.ntmps120
      go_wp2_with (first | (go_at_call 150; refine (c_WordTwoI _ _ _ _ _).mono ?_; rintro e w1 ⟨rfl, hB⟩))
      go_ret2
      have := kwp (w := w) (w' := w1) HK.out (below_boxed1 hB)
      simpa [hok] using this
    · have q : (u == v) = false := by simpa using huv
      go_enter Tryz.func120, Tryz.ntmps120
      go_wp2_with (first | (go_at_call 150; refine (c_WordTwoI _ _ _ _ _).mono ?_; rintro e w1 ⟨rfl, hB⟩))
      go_ret2
      have := kwp (w := w) (w' := w1) HK.out (below_boxed1 hB)
      simpa [hok, huv] using this
  · have hok' : (twoR k u 0 0).2.2 = false := by simpa using hok
    go_enter Tryz.func120, Tryz.ntmps120
    go_wp2_with (first | (go_at_call 150; refine (c_WordTwoI _ _ _ _ _).mono ?_; rintro e w1 ⟨rfl, hB⟩))
    go_ret2
    have := kwp (w := w) (w' := w1) HK.out (below_boxed1 hB)
    simpa [hok'] using this

set_option maxRecDepth 100000 in
set_option maxHeartbeats 2000000 in
theorem c_indexFits (ai aw bi bw : Int) (w : World) :
    Calls Tryz.prog 119 #[.agg #[.int .i64 ai, .int .i64 aw], .agg #[.int .i64 bi, .int .i64 bw]] w fun e w' => e = .returned (.bool (decide (0 < ai ∧ bi = 0 ∧ bw = ai))) ∧ Below w.heap.size w w' := by
  by_cases h1 : 0 < ai
  · by_cases h2 : bi = 0
    · subst h2
      by_cases h3 : bw = ai
      · subst h3
        have cA : ((w.alloc (.cells #[.int .i64 bw, .int .i64 aw] 64)).alloc (.cells #[.int .i64 0, .int .i64 bw] 64)).cell? ⟨w.heap.size, 0, none⟩ = some (.int .i64 bw) := by simp
        have cB : ((w.alloc (.cells #[.int .i64 bw, .int .i64 aw] 64)).alloc (.cells #[.int .i64 0, .int .i64 bw] 64)).cell? ⟨w.heap.size + 1, 0, none⟩ = some (.int .i64 0) := by simp
        have cC : ((w.alloc (.cells #[.int .i64 bw, .int .i64 aw] 64)).alloc (.cells #[.int .i64 0, .int .i64 bw] 64)).cell? ⟨w.heap.size + 1, 1, none⟩ = some (.int .i64 bw) := by simp
        go_enter Tryz.func119, Tryz.ntmps119
        go_wp2_with fail
        refine wp_region_held_drew (S := (fun w' => w'.cell? ⟨w.heap.size, 0, none⟩ = some (.int .i64 bw) ∧ w'.cell? ⟨w.heap.size + 1, 0, none⟩ = some (.int .i64 0) ∧ w'.cell? ⟨w.heap.size + 1, 1, none⟩ = some (.int .i64 bw))) (by kernel_rfl) ?_ (fun hHeld => ?_)
        · exact ⟨keepc (by go_grown) (by simp; omega) cA, keepc (by go_grown) (by simp) cB, keepc (by go_grown) (by simp) cC⟩
        refine tL 0 (some 5) ?_
        refine tL 1 (some 6) ?_
        refine tL 2 (some 7) ?_
        refine tL 3 (some 8) ?_
        refine tL 4 (some 9) ?_
        refine tL 5 (some 10) ?_
        refine tL 6 (some 11) ?_
        refine wpAnyH_ready (rs := [7]) (by kernel_rfl) (by simp) ?_
        refine AllReadyH.cons (o := _) rfl (fun K hK => ?_) AllReadyH.nil
        go_simp
        refine (c_wordSort _ _).mono ?_; rintro e w' ⟨rfl, rfl⟩
        (try go_wp2_with fail)
        refine hK.out _ _ ?_ (fun hHeld => ?_)
        · exact ⟨keepc (by go_grown) (by simp; omega) cA, keepc (by go_grown) (by simp) cB, keepc (by go_grown) (by simp) cC⟩
        clear hK K
        (try simp only [Act.put, List.setIfInBounds_toArray, List.set_cons_zero, List.set_cons_succ])
        refine tL 8 (some 13) ?_
        refine tL 9 (some 14) ?_
        refine tL 10 (some 4) ?_
        refine wpAnyH_done (by kernel_rfl) ?_ _
        go_wp2
        go_ret
        exact ⟨ret_bool (by symm; apply decide_eq_true; simp; exact h1), by go_grown⟩
      · have q : (bw == ai) = false := by simpa using h3
        have cA : ((w.alloc (.cells #[.int .i64 ai, .int .i64 aw] 64)).alloc (.cells #[.int .i64 0, .int .i64 bw] 64)).cell? ⟨w.heap.size, 0, none⟩ = some (.int .i64 ai) := by simp
        have cB : ((w.alloc (.cells #[.int .i64 ai, .int .i64 aw] 64)).alloc (.cells #[.int .i64 0, .int .i64 bw] 64)).cell? ⟨w.heap.size + 1, 0, none⟩ = some (.int .i64 0) := by simp
        have cC : ((w.alloc (.cells #[.int .i64 ai, .int .i64 aw] 64)).alloc (.cells #[.int .i64 0, .int .i64 bw] 64)).cell? ⟨w.heap.size + 1, 1, none⟩ = some (.int .i64 bw) := by simp
        go_enter Tryz.func119, Tryz.ntmps119
        go_wp2_with fail
        refine wp_region_held_drew (S := (fun w' => w'.cell? ⟨w.heap.size, 0, none⟩ = some (.int .i64 ai) ∧ w'.cell? ⟨w.heap.size + 1, 0, none⟩ = some (.int .i64 0) ∧ w'.cell? ⟨w.heap.size + 1, 1, none⟩ = some (.int .i64 bw))) (by kernel_rfl) ?_ (fun hHeld => ?_)
        · exact ⟨keepc (by go_grown) (by simp; omega) cA, keepc (by go_grown) (by simp) cB, keepc (by go_grown) (by simp) cC⟩
        refine tL 0 (some 5) ?_
        refine tL 1 (some 6) ?_
        refine tL 2 (some 7) ?_
        refine tL 3 (some 8) ?_
        refine tL 4 (some 9) ?_
        refine tL 5 (some 10) ?_
        refine tL 6 (some 11) ?_
        refine wpAnyH_ready (rs := [7]) (by kernel_rfl) (by simp) ?_
        refine AllReadyH.cons (o := _) rfl (fun K hK => ?_) AllReadyH.nil
        go_simp
        refine (c_wordSort _ _).mono ?_; rintro e w' ⟨rfl, rfl⟩
        (try go_wp2_with fail)
        refine hK.out _ _ ?_ (fun hHeld => ?_)
        · exact ⟨keepc (by go_grown) (by simp; omega) cA, keepc (by go_grown) (by simp) cB, keepc (by go_grown) (by simp) cC⟩
        clear hK K
        (try simp only [Act.put, List.setIfInBounds_toArray, List.set_cons_zero, List.set_cons_succ])
        refine tL 8 (some 13) ?_
        refine tL 9 (some 14) ?_
        refine tL 10 (some 4) ?_
        refine wpAnyH_done (by kernel_rfl) ?_ _
        go_wp2
        go_ret
        exact ⟨ret_bool (by symm; apply decide_eq_false; omega), by go_grown⟩
    · have q : (bi == 0) = false := by simpa using h2
      have cA : ((w.alloc (.cells #[.int .i64 ai, .int .i64 aw] 64)).alloc (.cells #[.int .i64 bi, .int .i64 bw] 64)).cell? ⟨w.heap.size, 0, none⟩ = some (.int .i64 ai) := by simp
      have cB : ((w.alloc (.cells #[.int .i64 ai, .int .i64 aw] 64)).alloc (.cells #[.int .i64 bi, .int .i64 bw] 64)).cell? ⟨w.heap.size + 1, 0, none⟩ = some (.int .i64 bi) := by simp
      have cC : ((w.alloc (.cells #[.int .i64 ai, .int .i64 aw] 64)).alloc (.cells #[.int .i64 bi, .int .i64 bw] 64)).cell? ⟨w.heap.size + 1, 1, none⟩ = some (.int .i64 bw) := by simp
      go_enter Tryz.func119, Tryz.ntmps119
      go_wp2_with fail
      refine wp_region_held_drew (S := (fun w' => w'.cell? ⟨w.heap.size, 0, none⟩ = some (.int .i64 ai) ∧ w'.cell? ⟨w.heap.size + 1, 0, none⟩ = some (.int .i64 bi) ∧ w'.cell? ⟨w.heap.size + 1, 1, none⟩ = some (.int .i64 bw))) (by kernel_rfl) ?_ (fun hHeld => ?_)
      · exact ⟨keepc (by go_grown) (by simp; omega) cA, keepc (by go_grown) (by simp) cB, keepc (by go_grown) (by simp) cC⟩
      refine tL 0 (some 5) ?_
      refine tL 1 (some 6) ?_
      refine tL 2 (some 7) ?_
      refine tL 3 (some 8) ?_
      refine tL 4 (some 9) ?_
      refine tL 5 (some 10) ?_
      refine tL 6 (some 11) ?_
      refine wpAnyH_ready (rs := [7]) (by kernel_rfl) (by simp) ?_
      refine AllReadyH.cons (o := _) rfl (fun K hK => ?_) AllReadyH.nil
      go_simp
      refine (c_wordSort _ _).mono ?_; rintro e w' ⟨rfl, rfl⟩
      (try go_wp2_with fail)
      refine hK.out _ _ ?_ (fun hHeld => ?_)
      · exact ⟨keepc (by go_grown) (by simp; omega) cA, keepc (by go_grown) (by simp) cB, keepc (by go_grown) (by simp) cC⟩
      clear hK K
      (try simp only [Act.put, List.setIfInBounds_toArray, List.set_cons_zero, List.set_cons_succ])
      refine tL 8 (some 13) ?_
      refine tL 9 (some 14) ?_
      refine tL 10 (some 4) ?_
      refine wpAnyH_done (by kernel_rfl) ?_ _
      go_wp2
      go_ret
      exact ⟨ret_bool (by symm; apply decide_eq_false; omega), by go_grown⟩
  · have q : decide (0 < ai) = false := by simpa using h1
    have cA : ((w.alloc (.cells #[.int .i64 ai, .int .i64 aw] 64)).alloc (.cells #[.int .i64 bi, .int .i64 bw] 64)).cell? ⟨w.heap.size, 0, none⟩ = some (.int .i64 ai) := by simp
    have cB : ((w.alloc (.cells #[.int .i64 ai, .int .i64 aw] 64)).alloc (.cells #[.int .i64 bi, .int .i64 bw] 64)).cell? ⟨w.heap.size + 1, 0, none⟩ = some (.int .i64 bi) := by simp
    have cC : ((w.alloc (.cells #[.int .i64 ai, .int .i64 aw] 64)).alloc (.cells #[.int .i64 bi, .int .i64 bw] 64)).cell? ⟨w.heap.size + 1, 1, none⟩ = some (.int .i64 bw) := by simp
    go_enter Tryz.func119, Tryz.ntmps119
    go_wp2_with fail
    refine wp_region_held_drew (S := (fun w' => w'.cell? ⟨w.heap.size, 0, none⟩ = some (.int .i64 ai) ∧ w'.cell? ⟨w.heap.size + 1, 0, none⟩ = some (.int .i64 bi) ∧ w'.cell? ⟨w.heap.size + 1, 1, none⟩ = some (.int .i64 bw))) (by kernel_rfl) ?_ (fun hHeld => ?_)
    · exact ⟨keepc (by go_grown) (by simp; omega) cA, keepc (by go_grown) (by simp) cB, keepc (by go_grown) (by simp) cC⟩
    refine tL 0 (some 5) ?_
    refine tL 1 (some 6) ?_
    refine tL 2 (some 7) ?_
    refine tL 3 (some 8) ?_
    refine tU 4 (some 9) ?_
    refine tU 5 (some 10) ?_
    refine tU 6 (some 11) ?_
    refine tU 7 (some 12) ?_
    refine tU 8 (some 13) ?_
    refine tL 9 (some 14) ?_
    refine tL 10 (some 4) ?_
    refine wpAnyH_done (by kernel_rfl) ?_ _
    go_wp2
    go_ret
    exact ⟨ret_bool (by symm; apply decide_eq_false; omega), by go_grown⟩
end Go.Proofs.YtbkcecilbpngcaaGreat
