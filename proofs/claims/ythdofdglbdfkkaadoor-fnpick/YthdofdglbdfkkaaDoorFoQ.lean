/-
  Of a forest: a rule's bit; what needs no node; the variable that is asked first; where a place leads.
-/
import Derived.Test.YthdofdglbdfkkaaDoorRows
import Derived.Test.YthdofdglbdfkkaaDoorFoW
import Derived.WalkKit
import Derived.ProofKit
import Derived.OpenShut
import Derived.WalkSpells
import Derived.WalkLawsBesides
import Derived.Outline
import Derived.BigQuiet
import Derived.Handy
import Derived.LoopTactic
import Derived.Deep.Light
import Derived.Deep.RegionWith
import Derived.Deep.RegionHeld3
import Derived.Deep.DeepCutAuto
import Derived.Lib.Hide
import Derived.Maps.OwnRows
import Derived.Deep.Onto
import Derived.OneCell
import Derived.StillTailTactics
import Derived.Deep.AppendLies
import Derived.Deep.RegionLaw
namespace Go.Proofs.YthdofdglbdfkkaaDoor
open Go.ChangeShapes Go.WideShapes Go.ChangeAt Go.RowKit Go.Maps Go.ChangeMaps
set_option linter.unusedVariables false
set_option maxRecDepth 100000

theorem c_bit (r a b : Int) (hr : isRule r) (ha : a = 0 ∨ a = 1) (hb : b = 0 ∨ b = 1) (w : World) :
    Calls Tryd.prog 96 #[.int .i64 r, .int .i64 a, .int .i64 b] w fun e w' => e = .returned (.int .i64 (rb r a b)) ∧ w' = w := by
  rcases hr with rfl | rfl | rfl <;> rcases ha with rfl | rfl <;> rcases hb with rfl | rfl <;>
  · go_enter Tryd.func96, Tryd.ntmps96
    go_wp2
    go_ret
    exact ⟨by first | rfl | decide | kernel_rfl, rfl⟩

set_option maxHeartbeats 4000000 in
theorem c_plainPair (r a b : Int) (hr : isRule r) (h0 : 0 ≤ a) (hab : a ≤ b) (w : World) :
    Calls Tryd.prog 84 #[.int .i64 r, .int .i64 a, .int .i64 b] w fun e w' => e = .returned (.tuple #[.int .i64 (plainAt r a b), .bool (plainOk r a b)]) ∧ w' = w := by
  have HR := Go.Lib.hid hr
  unfold plainAt plainOk
  by_cases h1 : b < 2
  · rw [if_pos h1, if_pos h1]
    have HA := Go.Lib.hid (show a = 0 ∨ a = 1 by omega)
    have HB := Go.Lib.hid (show b = 0 ∨ b = 1 by omega)
    clear hr h0 hab
    go_enter Tryd.func84, Tryd.ntmps84
    go_wp2_with fail
    refine (c_bit r a b HR.out HA.out HB.out _).mono ?_
    rintro e w' ⟨rfl, rfl⟩
    go_wp2_with fail
    go_ret2
    exact ⟨rfl, rfl⟩
  · rw [if_neg h1, if_neg h1]
    by_cases h2 : a < 2
    · rw [if_pos h2, if_pos h2]
      have HA := Go.Lib.hid (show a = 0 ∨ a = 1 by omega)
      obtain ⟨x0, hx0⟩ : ∃ x0, rb r a 0 = x0 := ⟨_, rfl⟩
      obtain ⟨x1, hx1⟩ : ∃ x1, rb r a 1 = x1 := ⟨_, rfl⟩
      have c0 := c_bit r a 0 hr HA.out (.inl rfl) w
      have c1 := c_bit r a 1 hr HA.out (.inr rfl) w
      rw [hx0] at c0
      rw [hx1] at c1
      have C0 := Go.Lib.hid c0
      have C1 := Go.Lib.hid c1
      rw [hx0, hx1]
      clear hr h0 hab c0 c1 hx0 hx1
      by_cases h3 : x0 = x1
      · subst h3
        have e1 : (x0 == x0) = true := by simp
        rw [if_pos rfl]
        go_enter Tryd.func84, Tryd.ntmps84
        go_wp2_with fail
        refine C0.out.mono ?_
        rintro e w' ⟨rfl, rfl⟩
        go_wp2_with fail
        refine C1.out.mono ?_
        rintro e w' ⟨rfl, rfl⟩
        go_wp2_with fail
        go_ret2
        exact ⟨by simp, rfl⟩
      · have e1 : (x0 == x1) = false := by simp [h3]
        rw [if_neg h3]
        by_cases h4 : x1 = 1
        · subst h4
          rw [if_pos rfl]
          go_enter Tryd.func84, Tryd.ntmps84
          go_wp2_with fail
          refine C0.out.mono ?_
          rintro e w' ⟨rfl, rfl⟩
          go_wp2_with fail
          refine C1.out.mono ?_
          rintro e w' ⟨rfl, rfl⟩
          go_wp2_with fail
          go_ret2
          exact ⟨by simp, rfl⟩
        · have e2 : (x1 == 1) = false := by simp [h4]
          rw [if_neg h4, e1, e2]
          go_enter Tryd.func84, Tryd.ntmps84
          go_wp2_with fail
          refine C0.out.mono ?_
          rintro e w' ⟨rfl, rfl⟩
          go_wp2_with fail
          refine C1.out.mono ?_
          rintro e w' ⟨rfl, rfl⟩
          go_wp2_with fail
          go_ret2
          exact ⟨rfl, rfl⟩
    · rw [if_neg h2, if_neg h2]
      by_cases h6 : a = b
      · subst h6
        rw [if_pos rfl, if_pos rfl]
        obtain ⟨x0, hx0⟩ : ∃ x0, rb r 0 0 = x0 := ⟨_, rfl⟩
        obtain ⟨x1, hx1⟩ : ∃ x1, rb r 1 1 = x1 := ⟨_, rfl⟩
        have c0 := c_bit r 0 0 hr (.inl rfl) (.inl rfl) w
        have c1 := c_bit r 1 1 hr (.inr rfl) (.inr rfl) w
        rw [hx0] at c0
        rw [hx1] at c1
        have C0 := Go.Lib.hid c0
        have C1 := Go.Lib.hid c1
        rw [hx0, hx1]
        have e0 : (a == a) = true := by simp
        clear hr h0 hab c0 c1 hx0 hx1
        by_cases h3 : x0 = x1
        · subst h3
          have e1 : (x0 == x0) = true := by simp
          rw [if_pos rfl]
          go_enter Tryd.func84, Tryd.ntmps84
          go_wp2_with fail
          refine C0.out.mono ?_
          rintro e w' ⟨rfl, rfl⟩
          go_wp2_with fail
          refine C1.out.mono ?_
          rintro e w' ⟨rfl, rfl⟩
          go_wp2_with fail
          go_ret2
          exact ⟨by simp, rfl⟩
        · have e1 : (x0 == x1) = false := by simp [h3]
          rw [if_neg h3]
          by_cases h4 : x1 = 1
          · subst h4
            rw [if_pos rfl]
            go_enter Tryd.func84, Tryd.ntmps84
            go_wp2_with fail
            refine C0.out.mono ?_
            rintro e w' ⟨rfl, rfl⟩
            go_wp2_with fail
            refine C1.out.mono ?_
            rintro e w' ⟨rfl, rfl⟩
            go_wp2_with fail
            go_ret2
            exact ⟨by simp, rfl⟩
          · have e2 : (x1 == 1) = false := by simp [h4]
            rw [if_neg h4, e1, e2]
            go_enter Tryd.func84, Tryd.ntmps84
            go_wp2_with fail
            refine C0.out.mono ?_
            rintro e w' ⟨rfl, rfl⟩
            go_wp2_with fail
            refine C1.out.mono ?_
            rintro e w' ⟨rfl, rfl⟩
            go_wp2_with fail
            go_ret2
            exact ⟨rfl, rfl⟩
      · have e6 : (a == b) = false := by simp [h6]
        rw [if_neg h6, if_neg h6]
        clear hr h0 hab
        go_enter Tryd.func84, Tryd.ntmps84
        go_wp2_with fail
        go_ret2
        exact ⟨rfl, rfl⟩

set_option maxHeartbeats 4000000 in
theorem c_ways {vars : Int} {fb mb pb : Nat} {v : Value} {F : List BN} {np : Nat} (p x : Int) (w : World) (h : ForestAt vars fb mb pb v F np w) (hp : InF F p) :
    Calls Tryd.prog 86 #[.pointer (some ⟨fb, 0, none⟩), .int .i64 p, .int .i64 x] w fun e w' => e = .returned (.tuple #[.int .i64 (wayL F p x), .int .i64 (wayH F p x)]) ∧ Below w.heap.size w w' := by
  unfold wayL wayH
  by_cases h1 : p < 2
  · rw [if_pos (.inl h1), if_pos (.inl h1)]
    have HB := Go.Lib.hid (Below.refl w.heap.size w)
    clear h hp
    go_enter Tryd.func86, Tryd.ntmps86
    go_wp2_with fail
    go_ret2
    exact ⟨rfl, HB.out⟩
  · obtain ⟨k, rfl⟩ : ∃ k : Nat, p = (k : Int) + 2 := ⟨(p - 2).toNat, by omega⟩
    have hk : k < F.length := by have := hp.2; omega
    obtain ⟨a, cap, rfl, hb⟩ := h.bns
    obtain ⟨n, b, off, hn, -, rfl, hbB, c0, c1, c2⟩ := bn_at hb hk
    have e : ((k : Int) + 2 - 2).toNat = k := by omega
    have hw : wrap64 ((k : Int) + 2 - 2) = (k : Int) := by rw [show (k : Int) + 2 - 2 = k by omega]; exact IntWalk.wrap64_in _ (by have := h.own.1; obtain ⟨q1, q2, q3, q4, q5, q6⟩ := hb; unfold maxLen at q3; omega)
    rw [e, ← hn]
    have f0 := cell_of_block (i := 0) h.blk (v := .slice (some ⟨b, off, none⟩) F.length cap) rfl
    have hki : (k : Int) < F.length := by omega
    obtain ⟨q1, q2, q3, q4, q5, q6⟩ := hb
    unfold maxLen at q3
    have hk3 : (k : Int) + 2 - 2 = k := by omega
    clear h hp q1 q4 q5 q6 hn e
    by_cases h2 : n.v = x
    · subst h2
      have e1 : (n.v != n.v) = false := by simp
      rw [if_neg (by intro hh; rcases hh with hh | hh; exact h1 hh; exact hh rfl), if_neg (by intro hh; rcases hh with hh | hh; exact h1 hh; exact hh rfl)]
      go_enter Tryd.func86, Tryd.ntmps86
      go_upto_region 4 with fail
      refine code_gen (R := fun wb => wb.heap[w.heap.size]? = some (.cells #[.int .i64 n.v, .int .i64 n.lo, .int .i64 n.hi] 67 (0, 0)) ∧ Below w.heap.size w wb) ⟨by first | exact (MapKept.heap_alloc _ _).1 | exact heap_alloc_new _ _, by go_grown⟩ ?_
      rintro w1 ⟨k1, hb1⟩
      have HB1 := Go.Lib.hid hb1
      have z1 := cell_of_block (i := 1) k1 (v := .int .i64 n.lo) rfl
      have z2 := cell_of_block (i := 2) k1 (v := .int .i64 n.hi) rfl
      clear k1 hb1 c0 c1 c2 f0
      go_quiet (fail)
      go_wp2_with fail
      go_ret2
      exact ⟨rfl, below_drewN HB1.out _⟩
    · have e1 : (n.v != x) = true := by simp [h2]
      rw [if_pos (.inr h2), if_pos (.inr h2)]
      have HB := Go.Lib.hid (Below.refl w.heap.size w)
      go_enter Tryd.func86, Tryd.ntmps86
      go_wp2_with fail
      go_ret2
      exact ⟨rfl, HB.out⟩
end Go.Proofs.YthdofdglbdfkkaaDoor
