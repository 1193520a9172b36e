/-
  What the small functions of words answer, both of the program and of the model: each is called at whatever arguments and answers what plain arithmetic says; it only reads.
-/
import Derived.Test.YtnbmhnbcmfcchaaRows
import Derived.Test.YtnbmhnbcmfcchaaMath
import Derived.WalkKit
import Derived.ProofKit
import Derived.OpenShut
import Derived.WalkSpells
import Derived.WalkLawsBesides
import Derived.Outline
import Derived.BigQuiet
namespace Go.Proofs.Ytnbmhnbcmfcchaa
open Go.ChangeShapes Go.WideShapes Go.ChangeAt Go.RowKit

theorem ret_bool {a b : Bool} (h : a = b) : Ending.returned (.bool a) = Ending.returned (.bool b) := by rw [h]
theorem ret_int {a b : Int} (h : a = b) : Ending.returned (.int .i64 a) = Ending.returned (.int .i64 b) := by rw [h]
theorem dec_and (p q : Prop) [Decidable p] [Decidable q] : (decide p && decide q) = decide (p ∧ q) := by simp
theorem dec_iff {p q : Prop} [Decidable p] [Decidable q] (h : p ↔ q) : decide p = decide q := decide_eq_decide.mpr h

theorem c_l1In (n lo hi : Int) (w : World) :
    Calls Try.prog 22 #[.int .i64 n, .int .i64 lo, .int .i64 hi] w fun e w' => e = .returned (.bool (decide (lo ≤ n) && decide (n ≤ hi))) ∧ w' = w := by
  by_cases h1 : lo ≤ n
  · go_enter Try.func22, Try.ntmps22
    go_wp2
    go_ret
    exact ⟨by simp [h1], rfl⟩
  · go_enter Try.func22, Try.ntmps22
    go_wp2
    go_ret
    exact ⟨by simp; omega, rfl⟩

theorem c_l1Width (n : Int) (w : World) :
    Calls Try.prog 23 #[.int .i64 n] w fun e w' => e = .returned (.bool (decide (1 ≤ n ∧ n ≤ 16))) ∧ w' = w := by
  go_enter Try.func23, Try.ntmps23
  go_wp2_with (go_at_call 22; refine (c_l1In _ _ _ _).mono ?_; rintro e w' ⟨rfl, rfl⟩)
  go_ret
  exact ⟨ret_bool (dec_and ..), rfl⟩

theorem c_widthOk (n : Int) (w : World) :
    Calls Try.prog 24 #[.int .i64 n] w fun e w' => e = .returned (.bool (decide (1 ≤ n ∧ n ≤ 16))) ∧ w' = w := by
  by_cases h1 : 1 ≤ n
  · go_enter Try.func24, Try.ntmps24
    go_wp2
    go_ret
    exact ⟨by simp [h1], rfl⟩
  · go_enter Try.func24, Try.ntmps24
    go_wp2
    go_ret
    exact ⟨by simp; omega, rfl⟩

theorem wrap_p2 {n : Int} (h : n ≤ 16) : wrap64 (2 ^ n.toNat) = 2 ^ n.toNat := by
  have := p2_le h; have := p2_pos n.toNat; exact IntWalk.wrap64_in _ (by omega)
theorem wrap_p2m {n : Int} (h : n ≤ 16) : wrap64 (2 ^ n.toNat - 1) = 2 ^ n.toNat - 1 := by
  have := p2_le h; have := p2_pos n.toNat; exact IntWalk.wrap64_in _ (by omega)

theorem c_wordTop (n : Int) (h1 : 1 ≤ n) (h2 : n ≤ 16) (w : World) :
    Calls Try.prog 64 #[.int .i64 n] w fun e w' => e = .returned (.int .i64 (2 ^ n.toNat - 1)) ∧ w' = w := by
  go_enter Try.func64, Try.ntmps64
  go_wp2
  go_ret
  exact ⟨by rw [wrap_p2 h2, wrap_p2m h2]; rfl, rfl⟩

theorem c_WordOkS (n v : Int) (w : World) :
    Calls Try.prog 27 #[.int .i64 n, .int .i64 v] w fun e w' => e = .returned (.bool (decide (WOk n v))) ∧ w' = w := by
  by_cases h : 1 ≤ n ∧ n ≤ 16
  · have hw := wrap_p2 h.2
    have hwm := wrap_p2m h.2
    have hd : decide (1 ≤ n ∧ n ≤ 16) = true := decide_eq_true h
    go_enter Try.func27, Try.ntmps27
    go_wp2_with (first | (go_at_call 22; refine (c_l1In _ _ _ _).mono ?_; rintro e w' ⟨rfl, rfl⟩) | (go_at_call 23; refine (c_l1Width _ _).mono ?_; rintro e w' ⟨rfl, rfl⟩))
    go_ret
    refine ⟨?_, rfl⟩
    refine ret_bool ?_; simp only [dec_and]; apply dec_iff; unfold WOk; omega
  · have hd : decide (1 ≤ n ∧ n ≤ 16) = false := decide_eq_false h
    go_enter Try.func27, Try.ntmps27
    go_wp2_with (first | (go_at_call 22; refine (c_l1In _ _ _ _).mono ?_; rintro e w' ⟨rfl, rfl⟩) | (go_at_call 23; refine (c_l1Width _ _).mono ?_; rintro e w' ⟨rfl, rfl⟩))
    go_ret
    refine ⟨?_, rfl⟩
    have : ¬ WOk n v := fun k => h ⟨k.1, k.2.1⟩
    simp [this]

theorem c_WordOkI (n v : Int) (w : World) :
    Calls Try.prog 47 #[.int .i64 n, .int .i64 v] w fun e w' => e = .returned (.bool (decide (WOk n v))) ∧ w' = w := by
  by_cases h : 1 ≤ n ∧ n ≤ 16
  · have hd : decide (1 ≤ n ∧ n ≤ 16) = true := decide_eq_true h
    by_cases h0 : 0 ≤ v
    · go_enter Try.func47, Try.ntmps47
      go_wp2_with (first | (go_at_call 24; refine (c_widthOk _ _).mono ?_; rintro e w' ⟨rfl, rfl⟩) | (go_at_call 64; refine (c_wordTop _ h.1 h.2 _).mono ?_; rintro e w' ⟨rfl, rfl⟩))
      go_ret
      refine ⟨?_, rfl⟩
      refine ret_bool ?_; apply dec_iff; unfold WOk; omega
    · go_enter Try.func47, Try.ntmps47
      go_wp2_with (first | (go_at_call 24; refine (c_widthOk _ _).mono ?_; rintro e w' ⟨rfl, rfl⟩) | (go_at_call 64; refine (c_wordTop _ h.1 h.2 _).mono ?_; rintro e w' ⟨rfl, rfl⟩))
      go_ret
      refine ⟨?_, rfl⟩
      have : ¬ WOk n v := fun k => by have := k.2.2.1; omega
      simp [this]
  · have hd : decide (1 ≤ n ∧ n ≤ 16) = false := decide_eq_false h
    go_enter Try.func47, Try.ntmps47
    go_wp2_with (first | (go_at_call 24; refine (c_widthOk _ _).mono ?_; rintro e w' ⟨rfl, rfl⟩))
    go_ret
    refine ⟨?_, rfl⟩
    have : ¬ WOk n v := fun k => h ⟨k.1, k.2.1⟩
    simp [this]

theorem c_wordBit (a i : Int) (h1 : 0 ≤ i) (h2 : i ≤ 16) (w : World) :
    Calls Try.prog 105 #[.int .i64 a, .int .i64 i] w fun e w' => e = .returned (.int .i64 (a / 2 ^ i.toNat % 2)) ∧ w' = w := by
  go_enter Try.func105, Try.ntmps105
  go_wp2
  go_ret
  exact ⟨ret_int (i64_one _), rfl⟩
theorem c_l1Bit (a i : Int) (h0 : 0 ≤ a) (h1 : 0 ≤ i) (h2 : i ≤ 16) (w : World) :
    Calls Try.prog 70 #[.int .i64 a, .int .i64 i] w fun e w' => e = .returned (.int .i64 (a / 2 ^ i.toNat % 2)) ∧ w' = w := by
  go_enter Try.func70, Try.ntmps70
  go_wp2
  go_ret
  exact ⟨ret_int (Int.tmod_eq_emod_of_nonneg (Int.ediv_nonneg h0 (Int.le_of_lt (p2_pos _)))), rfl⟩
theorem c_wordSign (n a : Int) (h1 : 1 ≤ n) (h2 : n ≤ 16) (w : World) :
    Calls Try.prog 76 #[.int .i64 n, .int .i64 a] w fun e w' => e = .returned (.int .i64 (a / 2 ^ (n.toNat - 1) % 2)) ∧ w' = w := by
  have hw : wrap64 (n - 1) = n - 1 := IntWalk.wrap64_in _ (by omega)
  go_enter Try.func76, Try.ntmps76
  go_wp2_with (go_at_call 105; refine (c_wordBit _ _ (by omega) (by omega) _).mono ?_; rintro e w' ⟨rfl, rfl⟩)
  go_ret
  exact ⟨rfl, rfl⟩
theorem c_l1Yes (b : Bool) (w : World) :
    Calls Try.prog 54 #[.bool b] w fun e w' => e = .returned (.int .i64 b.toNat) ∧ w' = w := by
  cases b <;> (go_enter Try.func54, Try.ntmps54; go_wp2; go_ret; exact ⟨rfl, rfl⟩)
theorem c_wordFlag (b : Bool) (w : World) :
    Calls Try.prog 106 #[.bool b] w fun e w' => e = .returned (.int .i64 b.toNat) ∧ w' = w := by
  cases b <;> (go_enter Try.func106, Try.ntmps106; go_wp2; go_ret; exact ⟨rfl, rfl⟩)
theorem c_ruleWidth (n : Int) (b : Bool) (w : World) :
    Calls Try.prog 74 #[.int .i64 n, .bool b] w fun e w' => e = .returned (.int .i64 (if b then 1 else n)) ∧ w' = w := by
  cases b <;> (go_enter Try.func74, Try.ntmps74; go_wp2; go_ret; exact ⟨rfl, rfl⟩)

theorem c_WordFromS (n v : Int) (w : World) :
    Calls Try.prog 52 #[.int .i64 n, .int .i64 v] w fun e w' => e = .returned (.int .i64 (frm n v)) ∧ w' = w := by
  by_cases h : 1 ≤ n ∧ n ≤ 16
  · have hw := wrap_p2 h.2
    have hd : decide (1 ≤ n ∧ n ≤ 16) = true := decide_eq_true h
    have hp := p2_pos n.toNat
    have hne : ¬ (2 : Int) ^ n.toNat = 0 := by omega
    have hle := p2_le h.2
    have t := tmod_bounds v _ hp
    have hm : Hid (v % 2 ^ n.toNat = _) := emod_of_tmod v _ hp
    by_cases hs : v.tmod (2 ^ n.toNat) < 0
    · have hww : wrap64 (v.tmod (2 ^ n.toNat) + 2 ^ n.toNat) = v.tmod (2 ^ n.toNat) + 2 ^ n.toNat := IntWalk.wrap64_in _ (by omega)
      clear t hle hp
      go_enter Try.func52, Try.ntmps52
      go_wp2_with (go_at_call 23; refine (c_l1Width _ _).mono ?_; rintro e w' ⟨rfl, rfl⟩)
      go_ret
      refine ⟨ret_int ?_, rfl⟩
      rw [frm_eq _ h.1 h.2, hm.out, if_pos hs, hww]
    · clear t hle hp
      go_enter Try.func52, Try.ntmps52
      go_wp2_with (go_at_call 23; refine (c_l1Width _ _).mono ?_; rintro e w' ⟨rfl, rfl⟩)
      go_ret
      refine ⟨ret_int ?_, rfl⟩
      rw [frm_eq _ h.1 h.2, hm.out, if_neg (by omega)]
  · have hd : decide (1 ≤ n ∧ n ≤ 16) = false := decide_eq_false h
    go_enter Try.func52, Try.ntmps52
    go_wp2_with (go_at_call 23; refine (c_l1Width _ _).mono ?_; rintro e w' ⟨rfl, rfl⟩)
    go_ret
    exact ⟨ret_int (by unfold frm; rw [if_neg h]), rfl⟩
theorem c_WordFromI (n v : Int) (w : World) :
    Calls Try.prog 71 #[.int .i64 n, .int .i64 v] w fun e w' => e = .returned (.int .i64 (frm n v)) ∧ w' = w := by
  by_cases h : 1 ≤ n ∧ n ≤ 16
  · have hd : decide (1 ≤ n ∧ n ≤ 16) = true := decide_eq_true h
    go_enter Try.func71, Try.ntmps71
    go_wp2_with (first | (go_at_call 24; refine (c_widthOk _ _).mono ?_; rintro e w' ⟨rfl, rfl⟩) | (go_at_call 64; refine (c_wordTop _ h.1 h.2 _).mono ?_; rintro e w' ⟨rfl, rfl⟩))
    go_ret
    exact ⟨ret_int (by rw [i64_mask _ _ (by omega), frm_eq _ h.1 h.2]), rfl⟩
  · have hd : decide (1 ≤ n ∧ n ≤ 16) = false := decide_eq_false h
    go_enter Try.func71, Try.ntmps71
    go_wp2_with (first | (go_at_call 24; refine (c_widthOk _ _).mono ?_; rintro e w' ⟨rfl, rfl⟩))
    go_ret
    exact ⟨ret_int (by unfold frm; rw [if_neg h]), rfl⟩


theorem c_WordSignedS (n v : Int) (w : World) :
    Calls Try.prog 53 #[.int .i64 n, .int .i64 v] w fun e w' => e = .returned (.int .i64 (sgn n v)) ∧ w' = w := by
  by_cases h : WOk n v
  · have hd : decide (WOk n v) = true := decide_eq_true h
    have hs : Hid (sgn n v = _) := sgn_eq h
    have hb : Hid _ := sgn_bound n v
    obtain ⟨h1, h2, h3, h4⟩ := h
    have hw := wrap_p2 h2
    have hw1 : wrap64 (n - 1) = n - 1 := IntWalk.wrap64_in _ (by omega)
    have hw2 : wrap64 (2 ^ (n.toNat - 1)) = 2 ^ (n.toNat - 1) := by have := wrap_p2 (n := n - 1) (by omega); rwa [show (n - 1).toNat = n.toNat - 1 by omega] at this
    by_cases hc : 2 ^ (n.toNat - 1) ≤ v
    · have hww : wrap64 (v - 2 ^ n.toNat) = v - 2 ^ n.toNat := by
        have := hb.out; have := hs.out; rw [if_pos hc] at this; exact IntWalk.wrap64_in _ (by omega)
      go_enter Try.func53, Try.ntmps53
      go_wp2_with (go_at_call 27; refine (c_WordOkS _ _ _).mono ?_; rintro e w' ⟨rfl, rfl⟩)
      go_ret
      exact ⟨ret_int (by rw [hs.out, if_pos hc, hww]), rfl⟩
    · go_enter Try.func53, Try.ntmps53
      go_wp2_with (go_at_call 27; refine (c_WordOkS _ _ _).mono ?_; rintro e w' ⟨rfl, rfl⟩)
      go_ret
      exact ⟨ret_int (by rw [hs.out, if_neg (by omega)]), rfl⟩
  · have hd : decide (WOk n v) = false := decide_eq_false h
    go_enter Try.func53, Try.ntmps53
    go_wp2_with (go_at_call 27; refine (c_WordOkS _ _ _).mono ?_; rintro e w' ⟨rfl, rfl⟩)
    go_ret
    exact ⟨ret_int (by unfold sgn; rw [if_neg h]), rfl⟩


theorem sign_bit {n v : Int} (h : WOk n v) : (v / 2 ^ (n.toNat - 1) % 2 = 1) ↔ 2 ^ (n.toNat - 1) ≤ v := by
  obtain ⟨h1, _, h3, h4⟩ := h
  have hp := p2_pos (n.toNat - 1)
  rw [p2_half h1] at h4
  have hlt : v / 2 ^ (n.toNat - 1) < 2 := by rw [Int.ediv_lt_iff_lt_mul hp]; omega
  have h0 : 0 ≤ v / 2 ^ (n.toNat - 1) := Int.ediv_nonneg h3 (by omega)
  have : 1 ≤ v / 2 ^ (n.toNat - 1) ↔ 1 * 2 ^ (n.toNat - 1) ≤ v := Int.le_ediv_iff_mul_le hp
  omega

theorem c_WordSignedI (n v : Int) (w : World) :
    Calls Try.prog 72 #[.int .i64 n, .int .i64 v] w fun e w' => e = .returned (.int .i64 (sgn n v)) ∧ w' = w := by
  by_cases h : WOk n v
  · have hd : decide (WOk n v) = true := decide_eq_true h
    have hs : Hid (sgn n v = _) := sgn_eq h
    have hb : Hid _ := sgn_bound n v
    have hx : Hid _ := sign_bit h
    obtain ⟨h1, h2, h3, h4⟩ := h
    have hw := wrap_p2 h2
    by_cases hc : 2 ^ (n.toNat - 1) ≤ v
    · have hww : wrap64 (v - 2 ^ n.toNat) = v - 2 ^ n.toNat := by
        have := hb.out; have := hs.out; rw [if_pos hc] at this; exact IntWalk.wrap64_in _ (by omega)
      have hbit : v / 2 ^ (n.toNat - 1) % 2 = 1 := hx.out.mpr hc
      go_enter Try.func72, Try.ntmps72
      go_wp2_with (first | (go_at_call 47; refine (c_WordOkI _ _ _).mono ?_; rintro e w' ⟨rfl, rfl⟩) | (go_at_call 76; refine (c_wordSign _ _ h1 h2 _).mono ?_; rintro e w' ⟨rfl, rfl⟩))
      go_ret
      exact ⟨ret_int (by rw [hs.out, if_pos hc, hww]), rfl⟩
    · have hbit : (v / 2 ^ (n.toNat - 1) % 2 == 1) = false := by simp; exact fun k => hc (hx.out.mp k)
      go_enter Try.func72, Try.ntmps72
      go_wp2_with (first | (go_at_call 47; refine (c_WordOkI _ _ _).mono ?_; rintro e w' ⟨rfl, rfl⟩) | (go_at_call 76; refine (c_wordSign _ _ h1 h2 _).mono ?_; rintro e w' ⟨rfl, rfl⟩))
      go_ret
      exact ⟨ret_int (by rw [hs.out, if_neg (by omega)]), rfl⟩
  · have hd : decide (WOk n v) = false := decide_eq_false h
    go_enter Try.func72, Try.ntmps72
    go_wp2_with (go_at_call 47; refine (c_WordOkI _ _ _).mono ?_; rintro e w' ⟨rfl, rfl⟩)
    go_ret
    exact ⟨ret_int (by unfold sgn; rw [if_neg h]), rfl⟩

end Go.Proofs.Ytnbmhnbcmfcchaa
