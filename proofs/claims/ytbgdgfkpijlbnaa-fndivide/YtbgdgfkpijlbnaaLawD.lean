/-
  The law of quotients, walked.
-/
import Derived.Test.YtbgdgfkpijlbnaaRows
import Derived.Test.YtbgdgfkpijlbnaaMath
import Derived.Test.YtbgdgfkpijlbnaaBase
import Derived.Test.YtbgdgfkpijlbnaaCut
import Derived.Test.YtbgdgfkpijlbnaaOnes
import Derived.Test.YtbgdgfkpijlbnaaBits
import Derived.Test.YtbgdgfkpijlbnaaTwoI
import Derived.Test.YtbgdgfkpijlbnaaTab
import Derived.Test.YtbgdgfkpijlbnaaWTwoA
import Derived.Test.YtbgdgfkpijlbnaaWTwoB
import Derived.Test.YtbgdgfkpijlbnaaTwoS
import Derived.Test.YtbgdgfkpijlbnaaTwo
import Derived.Test.YtbgdgfkpijlbnaaDraw
import Derived.Test.YtbgdgfkpijlbnaaDraws
import Derived.Test.YtbgdgfkpijlbnaaLawW
import Derived.WalkKit
import Derived.ProofKit
import Derived.OpenShut
import Derived.WalkSpells
import Derived.WalkLawsBesides
import Derived.Outline
import Derived.BigQuiet
namespace Go.Proofs.Ytbgdgfkpijlbnaa
open Go.ChangeShapes Go.WideShapes Go.ChangeAt Go.RowKit
set_option linter.unusedVariables false

theorem sgn_frm {n t : Int} (h1 : 1 ≤ n) (h2 : n ≤ 16) (h3 : -(2 ^ (n.toNat - 1)) ≤ t) (h4 : t < 2 ^ (n.toNat - 1)) : sgn n (frm n t) = t := by
  have hp := p2_half h1
  have hpp := p2_pos (n.toNat - 1)
  rw [sgn_eq (frm_ok t h1 h2), frm_eq _ h1 h2]
  by_cases h : 0 ≤ t
  · rw [Int.emod_eq_of_lt h (by omega), if_neg (by omega)]
  · have e : t % 2 ^ n.toNat = t + 2 ^ n.toNat := by
      rw [← Int.add_emod_right, Int.emod_eq_of_lt (by omega) (by omega)]
    rw [e, if_pos (by omega)]; omega
theorem divide_facts {n a b q r x y m S T : Int} (ha : WOk n a) (hb : WOk n b) (hb0 : ¬ b = 0) (hq : vDiv n a b = q) (hr : vRem a b = r) (hx : vSdiv n a b = x) (hy : vSrem n a b = y) (hm : frm n (x * b) = m) (hS : sgn n y = S) (hT : sgn n b = T) :
    wrap64 (q * b) = q * b ∧ wrap64 a = a ∧ q * b + r = a ∧ r < b ∧ (twoR 11 n x b).1 = m ∧ (twoR 9 n m y).1 = a ∧ (-65536 < S ∧ S < 65536 ∧ -65536 < T ∧ T < 65536) ∧ S.natAbs < T.natAbs := by
  have hdb := div_bound ha.2.2.1 ha.lt hb.2.2.1
  have hbp : 0 < b := by have := hb.2.2.1; omega
  have hq' : q = a / b := by rw [← hq]; unfold vDiv; rw [if_neg hb0]
  have hr' : r = a % b := by rw [← hr]; unfold vRem; rw [if_neg hb0]
  have hx' : x = frm n ((sgn n a).tdiv (sgn n b)) := by rw [← hx]; unfold vSdiv; rw [if_neg hb0]
  have hy' : y = frm n ((sgn n a).tmod (sgn n b)) := by rw [← hy]; unfold vSrem; rw [if_neg hb0]
  have hsum : q * b + r = a := by rw [hq', hr', Int.mul_comm]; have := Int.emod_add_mul_ediv a b; omega
  have hr0 : 0 ≤ r := by rw [hr']; exact Int.emod_nonneg _ (by omega)
  have hrb : r < b := by rw [hr']; exact Int.emod_lt_of_pos _ hbp
  have hqb : 0 ≤ q * b := by rw [hq']; exact Int.mul_nonneg hdb.1 (by omega)
  have ha2 := ha.lt
  have ox : WOk n x := by rw [hx']; exact frm_ok _ ha.1 ha.2.1
  have oy : WOk n y := by rw [hy']; exact frm_ok _ ha.1 ha.2.1
  have om : WOk n m := by rw [← hm]; exact frm_ok _ ha.1 ha.2.1
  have hsb := sgn_range hb
  have hT0 : ¬ sgn n b = 0 := sgn_ne_zero hb hb0
  have habs : ((sgn n a).tmod (sgn n b)).natAbs < (sgn n b).natAbs := by
    rw [Int.natAbs_tmod]; exact Nat.mod_lt _ (by omega)
  have hSv : sgn n y = (sgn n a).tmod (sgn n b) := by
    rw [hy']; exact sgn_frm ha.1 ha.2.1 (by omega) (by omega)
  have hsa := sgn_bound n y
  have hsb2 := sgn_bound n b
  refine ⟨IntWalk.wrap64_in _ (by omega), IntWalk.wrap64_in _ (by have := ha.2.2.1; omega), hsum, hrb, (two_mul ox hb).trans hm, (two_add om oy).trans ?_, by omega, ?_⟩
  · rw [← hm, frm_add_l, hy', frm_add_r, hx']
    have e1 : frm n (frm n ((sgn n a).tdiv (sgn n b)) * b + (sgn n a).tmod (sgn n b)) = frm n ((sgn n a).tdiv (sgn n b) * sgn n b + (sgn n a).tmod (sgn n b)) := by
      have hbe : frm n ((sgn n a).tdiv (sgn n b) * b) = frm n ((sgn n a).tdiv (sgn n b) * sgn n b) := by
        have := frm_mul_r n ((sgn n a).tdiv (sgn n b)) (sgn n b); rw [frm_sgn hb] at this; exact this
      rw [← frm_add_l, frm_mul_l, hbe, frm_add_l]
    rw [e1, Int.mul_comm, Int.mul_tdiv_add_tmod, frm_sgn ha]
  · rw [← hS, ← hT, hSv]; exact habs

theorem w_FnDivide (a0 : Option Addr) (len0 cap0 : Nat) (w : World) (h0 : BytesAt w.heap.size w a0 len0 cap0) :
    Calls Try.prog 4 #[.slice a0 len0 cap0] w fun e w' => e = .returned (.bool true) ∧ Below w.heap.size w w' := by
  have HB0 : Below w.heap.size w w := Below.refl _ _
  by_cases hl0 : (1048576 : Int) < len0
  · go_enter Try.func4, Try.ntmps4
    go_wp2_with fail
    go_ret
    exact ⟨rfl, HB0⟩
  · go_enter Try.func4, Try.ntmps4
    go_wp2_with fail
    refine (k_DrawWordTwo _ h0 HB0).mono ?_
    rintro e w1 ⟨k1, n, a, b, rfl, g1, g2, g3, g4, g5, g6, HB1⟩
    clear h0 HB0 hl0
    by_cases ha : WOk n a
    · have hd1 : decide (WOk n a) = true := decide_eq_true ha
      by_cases hb : WOk n b
      · have hd2 : decide (WOk n b) = true := decide_eq_true hb
        obtain ⟨q, hq⟩ : ∃ q, vDiv n a b = q := ⟨_, rfl⟩
        obtain ⟨r, hr⟩ : ∃ r, vRem a b = r := ⟨_, rfl⟩
        obtain ⟨x, hx⟩ : ∃ x, vSdiv n a b = x := ⟨_, rfl⟩
        obtain ⟨y, hy⟩ : ∃ y, vSrem n a b = y := ⟨_, rfl⟩
        have f1 : (twoR 12 n a b).1 = q := (twoR_fst ha hb (by decide) (by decide)).trans hq
        have f2 : (twoR 13 n a b).1 = r := (twoR_fst ha hb (by decide) (by decide)).trans hr
        have f3 : (twoR 14 n a b).1 = x := (twoR_fst ha hb (by decide) (by decide)).trans hx
        have f4 : (twoR 15 n a b).1 = y := (twoR_fst ha hb (by decide) (by decide)).trans hy
        by_cases hb0 : b = 0
        · subst hb0
          have e1 : 2 ^ n.toNat - 1 = q := by rw [← hq]; unfold vDiv; rw [if_pos rfl]
          have e2 : r = a := by rw [← hr]; unfold vRem; rw [if_pos rfl]
          have e3 : y = a := by rw [← hy]; unfold vSrem; rw [if_pos rfl]
          have hw1 := wrap_p2 ha.2.1
          have hw2 : wrap64 (2 ^ n.toNat - 1) = q := by rw [wrap_p2m ha.2.1, e1]
          have h1 := ha.1; have h2 := ha.2.1
          rw [e2] at f2
          rw [e3] at f4
          clear hq hr hx hy ha hb g1 g2 g3 g4 g5 g6 e1 e2 e3
          go_wp2_with (first | (go_at_call 18; refine (c_WordOkS _ _ _).mono ?_; rintro e wz ⟨rfl, hz⟩; obtain rfl := hz.symm) | (go_at_call 20; refine (k_ldTwo _ _ _ _ _ (by assumption)).mono ?_; rintro e wi ⟨rfl, hBi⟩))
          go_ret
          exact ⟨rfl, by assumption⟩
        · obtain ⟨m, hm⟩ : ∃ m, frm n (x * b) = m := ⟨_, rfl⟩
          obtain ⟨S, hS⟩ : ∃ S, sgn n y = S := ⟨_, rfl⟩
          obtain ⟨T, hT⟩ : ∃ T, sgn n b = T := ⟨_, rfl⟩
          obtain ⟨d1, d2, d3, d4, d5, d6, d7, d8⟩ := divide_facts ha hb hb0 hq hr hx hy hm hS hT
          have hb0' : (b == 0) = false := by simp; exact hb0
          clear hq hr hx hy hm g1 g2 g3 g4 g5 g6 ha hb
          rcases (by omega : S < 0 ∨ ¬ S < 0) with hS0 | hS0 <;> rcases (by omega : T < 0 ∨ ¬ T < 0) with hT0 | hT0
          all_goals
            have hST : Hid _ := d8
            have hwS : wrap64 (-S) = -S := IntWalk.wrap64_in _ (by omega)
            have hwT : wrap64 (-T) = -T := IntWalk.wrap64_in _ (by omega)
            go_wp2_with (first | (go_at_call 18; refine (c_WordOkS _ _ _).mono ?_; rintro e wz ⟨rfl, hz⟩; obtain rfl := hz.symm) | (go_at_call 20; refine (k_ldTwo _ _ _ _ _ (by assumption)).mono ?_; rintro e wi ⟨rfl, hBi⟩) | (go_at_call 22; refine (c_WordSignedI _ _ _).mono ?_; rintro e wz ⟨rfl, hz⟩; obtain rfl := hz.symm))
            go_ret
            exact ⟨ret_bool (decide_eq_true (by have := hST.out; omega)), by assumption⟩
      · have hd2 : decide (WOk n b) = false := decide_eq_false hb
        have hf : (twoR 12 n a b).2.2 = false := twoR_bad (fun k => hb k.2)
        clear ha hb
        go_wp2_with (first | (go_at_call 18; refine (c_WordOkS _ _ _).mono ?_; rintro e wz ⟨rfl, hz⟩; obtain rfl := hz.symm) | (go_at_call 19; refine (k_WordTwo _ _ _ _ _ (by assumption)).mono ?_; rintro e wi ⟨rfl, hBi⟩))
        go_ret
        exact ⟨rfl, by assumption⟩
    · have hd1 : decide (WOk n a) = false := decide_eq_false ha
      have hf : (twoR 12 n a b).2.2 = false := twoR_bad (fun k => ha k.1)
      clear ha
      go_wp2_with (first | (go_at_call 18; refine (c_WordOkS _ _ _).mono ?_; rintro e wz ⟨rfl, hz⟩; obtain rfl := hz.symm) | (go_at_call 19; refine (k_WordTwo _ _ _ _ _ (by assumption)).mono ?_; rintro e wi ⟨rfl, hBi⟩))
      go_ret
      exact ⟨rfl, by assumption⟩
end Go.Proofs.Ytbgdgfkpijlbnaa
