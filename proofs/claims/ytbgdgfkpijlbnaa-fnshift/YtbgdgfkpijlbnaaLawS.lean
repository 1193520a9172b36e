/-
  The law of shifts and turns, walked.
-/
import Derived.Test.YtbgdgfkpijlbnaaRows
import Derived.Test.YtbgdgfkpijlbnaaMath
import Derived.Test.YtbgdgfkpijlbnaaBase
import Derived.Test.YtbgdgfkpijlbnaaCut
import Derived.Test.YtbgdgfkpijlbnaaOnes
import Derived.Test.YtbgdgfkpijlbnaaBits
import Derived.Test.YtbgdgfkpijlbnaaTwoI
import Derived.Test.YtbgdgfkpijlbnaaTab
import Derived.Test.YtbgdgfkpijlbnaaWTwoA
import Derived.Test.YtbgdgfkpijlbnaaWTwoB
import Derived.Test.YtbgdgfkpijlbnaaTwoS
import Derived.Test.YtbgdgfkpijlbnaaTwo
import Derived.Test.YtbgdgfkpijlbnaaDraw
import Derived.Test.YtbgdgfkpijlbnaaDraws
import Derived.Test.YtbgdgfkpijlbnaaLawW
import Derived.WalkKit
import Derived.ProofKit
import Derived.OpenShut
import Derived.WalkSpells
import Derived.WalkLawsBesides
import Derived.Outline
import Derived.BigQuiet
namespace Go.Proofs.Ytbgdgfkpijlbnaa
open Go.ChangeShapes Go.WideShapes Go.ChangeAt Go.RowKit
set_option linter.unusedVariables false

theorem mod_lt_n {n b : Int} (h1 : 1 ≤ n) : 0 ≤ b % n ∧ b % n < n := ⟨Int.emod_nonneg _ (by omega), Int.emod_lt_of_pos _ (by omega)⟩
theorem rol_ok {n a b : Int} (ha : WOk n a) (hb : WOk n b) : WOk n (vRol n a b) := by
  have h1 := ha.1
  have := mod_lt_n (b := b) h1
  have := turn_ok (N := n.toNat) (r := (b % n).toNat) (by omega) ha.2.2.1 ha.2.2.2
  exact ⟨ha.1, ha.2.1, this.1, this.2⟩
theorem ror_ok {n a b : Int} (ha : WOk n a) (hb : WOk n b) : WOk n (vRor n a b) := by
  have h1 := ha.1
  have := mod_lt_n (b := n - b % n) h1
  have := turn_ok (N := n.toNat) (r := ((n - b % n) % n).toNat) (by omega) ha.2.2.1 ha.2.2.2
  exact ⟨ha.1, ha.2.1, this.1, this.2⟩
theorem ror_rol {n a b : Int} (ha : WOk n a) (hb : WOk n b) : vRor n (vRol n a b) b = a := by
  have h1 := ha.1
  have hm := mod_lt_n (b := b) h1
  unfold vRor vRol
  by_cases h0 : b % n = 0
  · rw [h0, show ((n - 0) % n) = 0 by rw [Int.sub_zero, Int.emod_self]]
    show turn n.toNat 0 (turn n.toNat 0 a) = a
    rw [turn_zero _ ha.2.2.1 ha.2.2.2, turn_zero _ ha.2.2.1 ha.2.2.2]
  · rw [Int.emod_eq_of_lt (a := n - b % n) (by omega) (by omega), show (n - b % n).toNat = n.toNat - (b % n).toNat by omega]
    exact turn_back (by omega) (by omega) ha.2.2.1 ha.2.2.2
theorem rol_ror {n a b : Int} (ha : WOk n a) (hb : WOk n b) : vRol n (vRor n a b) b = a := by
  have h1 := ha.1
  have hm := mod_lt_n (b := b) h1
  unfold vRor vRol
  by_cases h0 : b % n = 0
  · rw [h0, show ((n - 0) % n) = 0 by rw [Int.sub_zero, Int.emod_self]]
    show turn n.toNat 0 (turn n.toNat 0 a) = a
    rw [turn_zero _ ha.2.2.1 ha.2.2.2, turn_zero _ ha.2.2.1 ha.2.2.2]
  · rw [Int.emod_eq_of_lt (a := n - b % n) (by omega) (by omega)]
    have := turn_back (N := n.toNat) (r := (n - b % n).toNat) (by omega) (by omega) ha.2.2.1 ha.2.2.2
    rwa [show n.toNat - (n - b % n).toNat = (b % n).toNat by omega] at this
theorem shl_far {n a b : Int} (ha : WOk n a) (h : n ≤ b) : vShl n a b = 0 := by
  have h1 := ha.1
  unfold vShl
  rw [frm_eq _ ha.1 ha.2.1, show b.toNat = n.toNat + (b.toNat - n.toNat) by omega, p2_add, ← Int.mul_assoc, Int.mul_comm a, Int.mul_assoc]
  exact Int.mul_emod_right ..
theorem shr_far {n a b : Int} (ha : WOk n a) (h : n ≤ b) : vShr a b = 0 := by
  have h1 := ha.1
  exact div_small ha.2.2.1 (Int.lt_of_lt_of_le ha.2.2.2 (p2_mono (by omega)))
theorem half_bound {S : Int} (h : -65536 < S ∧ S < 65536) (k : Nat) : -65536 ≤ S / 2 ^ k ∧ S / 2 ^ k < 65536 := by
  have hp := p2_pos k
  have h1 : -65536 ≤ S / 2 ^ k := by
    rw [Int.le_ediv_iff_mul_le hp]
    have : -65536 * 2 ^ k ≤ -65536 * 1 := Int.mul_le_mul_of_nonpos_left (by decide) (by omega)
    omega
  have h2 : S / 2 ^ k < 65536 := by
    rw [Int.ediv_lt_iff_lt_mul hp]
    have : (65536 : Int) * 1 ≤ 65536 * 2 ^ k := Int.mul_le_mul_of_nonneg_left (by omega) (by decide)
    omega
  exact ⟨h1, h2⟩
theorem halve {T : Int} (h1 : -65536 ≤ T) (h2 : T < 65536) : wrap64 ((wrap64 (T - (wrap64 (T.tmod 2 + 2)).tmod 2)).tdiv 2) = T / 2 := by
  have hb := tmod_bounds T 2 (by decide)
  have he := emod_of_tmod T 2 (by decide)
  have e1 : wrap64 (T.tmod 2 + 2) = T.tmod 2 + 2 := IntWalk.wrap64_in _ (by omega)
  have e2 : (T.tmod 2 + 2).tmod 2 = T % 2 := by
    rw [Int.tmod_eq_emod_of_nonneg (by omega)]
    split at he <;> omega
  have e3 : wrap64 (T - T % 2) = T - T % 2 := IntWalk.wrap64_in _ (by omega)
  have e4 : (T - T % 2).tdiv 2 = (T - T % 2) / 2 := Int.tdiv_eq_ediv_of_dvd (by omega)
  rw [e1, e2, e3, e4, IntWalk.wrap64_in _ (by omega)]
  omega
theorem half_step {S : Int} (h : -65536 < S ∧ S < 65536) (k : Nat) : S / 2 ^ k / 2 = S / 2 ^ (k + 1) := by
  have := div_div_p2 S k 1; simpa using this

theorem w_FnShift (a0 : Option Addr) (len0 cap0 : Nat) (w : World) (h0 : BytesAt w.heap.size w a0 len0 cap0) :
    Calls Try.prog 5 #[.slice a0 len0 cap0] w fun e w' => e = .returned (.bool true) ∧ Below w.heap.size w w' := by
  have HB0 : Below w.heap.size w w := Below.refl _ _
  by_cases hl0 : (1048576 : Int) < len0
  · go_enter Try.func5, Try.ntmps5
    go_wp2_with fail
    go_ret
    exact ⟨rfl, HB0⟩
  · go_enter Try.func5, Try.ntmps5
    go_wp2_with fail
    refine (k_DrawWordTwo _ h0 HB0).mono ?_
    rintro e w1 ⟨k1, n, a, b, rfl, g1, g2, g3, g4, g5, g6, HB1⟩
    clear h0 HB0 hl0
    by_cases ha : WOk n a
    · have hd1 : decide (WOk n a) = true := decide_eq_true ha
      by_cases hb : WOk n b
      · have hd2 : decide (WOk n b) = true := decide_eq_true hb
        obtain ⟨l, hl⟩ : ∃ x, vShl n a b = x := ⟨_, rfl⟩
        obtain ⟨r, hr⟩ : ∃ x, vShr a b = x := ⟨_, rfl⟩
        obtain ⟨t, ht⟩ : ∃ x, vRol n a b = x := ⟨_, rfl⟩
        obtain ⟨u, hu⟩ : ∃ x, vRor n a b = x := ⟨_, rfl⟩
        obtain ⟨v, hv⟩ : ∃ x, vSar n a b = x := ⟨_, rfl⟩
        have ot : WOk n t := by rw [← ht]; exact rol_ok ha hb
        have ou : WOk n u := by rw [← hu]; exact ror_ok ha hb
        have f1 : (twoR 16 n a b).1 = l := (twoR_fst ha hb (by decide) (by decide)).trans hl
        have f2 : (twoR 17 n a b).1 = r := (twoR_fst ha hb (by decide) (by decide)).trans hr
        have f3 : (twoR 19 n a b).1 = t := (twoR_fst ha hb (by decide) (by decide)).trans ht
        have f4 : (twoR 20 n a b).1 = u := (twoR_fst ha hb (by decide) (by decide)).trans hu
        have f5 : (twoR 20 n t b).1 = a := (twoR_fst ot hb (by decide) (by decide)).trans (by rw [← ht]; exact ror_rol ha hb)
        have f6 : (twoR 19 n u b).1 = a := (twoR_fst ou hb (by decide) (by decide)).trans (by rw [← hu]; exact rol_ror ha hb)
        have f7 : (twoR 18 n a b).1 = v := (twoR_fst ha hb (by decide) (by decide)).trans hv
        by_cases hbn : n ≤ b
        · have e1 : l = 0 := by rw [← hl]; exact shl_far ha hbn
          have e2 : r = 0 := by rw [← hr]; exact shr_far ha hbn
          rw [e1] at f1
          rw [e2] at f2
          clear hl hr ht hu hv ha hb ot ou g1 g2 g3 g4 g5 g6 e1 e2
          go_wp2_with (first | (go_at_call 18; refine (c_WordOkS _ _ _).mono ?_; rintro e wz ⟨rfl, hz⟩; obtain rfl := hz.symm) | (go_at_call 20; refine (k_ldTwo _ _ _ _ _ (by assumption)).mono ?_; rintro e wi ⟨rfl, hBi⟩))
          go_ret
          exact ⟨rfl, by assumption⟩
        · have h1 := ha.1; have h2 := ha.2.1; have hb0 := hb.2.2.1
          have hsb := sgn_bound n a
          obtain ⟨S, hS⟩ : ∃ S, sgn n a = S := ⟨_, rfl⟩
          rw [hS] at hsb
          have hl' : frm n (a * 2 ^ b.toNat) = l := hl
          have hr' : a / 2 ^ b.toNat = r := hr
          have hv' : frm n (S / 2 ^ b.toNat) = v := by rw [← hv, ← hS]; rfl
          have hfw : ∀ x, frm n (wrap64 x) = frm n x := frm_wrap n
          clear hl hr ht hu hv ha hb ot ou g1 g2 g3 g4 g5 g6
          go_wp2_with (first | (go_at_call 18; refine (c_WordOkS _ _ _).mono ?_; rintro e wz ⟨rfl, hz⟩; obtain rfl := hz.symm) | (go_at_call 20; refine (k_ldTwo _ _ _ _ _ (by assumption)).mono ?_; rintro e wi ⟨rfl, hBi⟩) | (go_at_call 23; refine (c_WordSignedS _ _ _).mono ?_; rintro e wz ⟨rfl, hz⟩; obtain rfl := hz.symm))
          go_loop [13, 14] (fun s i => ∃ k : Nat, (k : Int) ≤ b ∧ i = .int .i64 k ∧ s = .int .i64 (S / 2 ^ k)) (fun _ i => (b - intOf i).toNat)
          case atStart => exact ⟨0, by omega, rfl, by simp⟩
          case round =>
            obtain ⟨k, hk, rfl, rfl⟩ := hrel
            have hq : Hid _ := half_step hsb k
            have hqb := half_bound hsb k
            by_cases hlt : (k : Int) < b
            · generalize S / 2 ^ k = T at *
              go_wp2_with (first | (go_at_call 18; refine (c_WordOkS _ _ _).mono ?_; rintro e wz ⟨rfl, hz⟩; obtain rfl := hz.symm) | (go_at_call 20; refine (k_ldTwo _ _ _ _ _ (by assumption)).mono ?_; rintro e wi ⟨rfl, hBi⟩) | (go_at_call 23; refine (c_WordSignedS _ _ _).mono ?_; rintro e wz ⟨rfl, hz⟩; obtain rfl := hz.symm) | (go_at_call 17; refine (c_WordFromS _ _ _).mono ?_; rintro e wz ⟨rfl, hz⟩; obtain rfl := hz.symm))
              go_round
              case rel =>
                refine ⟨k + 1, by omega, by go_num, congrArg (Value.int .i64) ?_⟩
                rw [← hq.out]
                exact halve hqb.1 hqb.2
              case measure => simp [intOf]; omega
            · obtain rfl : b = (k : Int) := by omega
              simp only [Int.toNat_natCast] at hl' hr' hv'
              clear hq hqb hlt
              go_wp2_with (first | (go_at_call 18; refine (c_WordOkS _ _ _).mono ?_; rintro e wz ⟨rfl, hz⟩; obtain rfl := hz.symm) | (go_at_call 20; refine (k_ldTwo _ _ _ _ _ (by assumption)).mono ?_; rintro e wi ⟨rfl, hBi⟩) | (go_at_call 23; refine (c_WordSignedS _ _ _).mono ?_; rintro e wz ⟨rfl, hz⟩; obtain rfl := hz.symm) | (go_at_call 17; refine (c_WordFromS _ _ _).mono ?_; rintro e wz ⟨rfl, hz⟩; obtain rfl := hz.symm))
              go_ret
              exact ⟨rfl, by assumption⟩
      · have hd2 : decide (WOk n b) = false := decide_eq_false hb
        have hf : (twoR 16 n a b).2.2 = false := twoR_bad (fun k => hb k.2)
        clear ha hb
        go_wp2_with (first | (go_at_call 18; refine (c_WordOkS _ _ _).mono ?_; rintro e wz ⟨rfl, hz⟩; obtain rfl := hz.symm) | (go_at_call 19; refine (k_WordTwo _ _ _ _ _ (by assumption)).mono ?_; rintro e wi ⟨rfl, hBi⟩))
        go_ret
        exact ⟨rfl, by assumption⟩
    · have hd1 : decide (WOk n a) = false := decide_eq_false ha
      have hf : (twoR 16 n a b).2.2 = false := twoR_bad (fun k => ha k.1)
      clear ha
      go_wp2_with (first | (go_at_call 18; refine (c_WordOkS _ _ _).mono ?_; rintro e wz ⟨rfl, hz⟩; obtain rfl := hz.symm) | (go_at_call 19; refine (k_WordTwo _ _ _ _ _ (by assumption)).mono ?_; rintro e wi ⟨rfl, hBi⟩))
      go_ret
      exact ⟨rfl, by assumption⟩
end Go.Proofs.Ytbgdgfkpijlbnaa
