/-
  Plain arithmetic of words (no Go in sight): powers of 2, words, signs, bits; what the loops over bits add up to.
-/
import Derived.WalkKit
import Derived.Laws.BitsLemmas
import Derived.Laws.BitsAllLaws
namespace Go.Proofs.Ytnbmhnbcmfcchaa
open Go.RowKit

theorem p2_pos (k : Nat) : (0 : Int) < 2 ^ k := Int.pow_pos (by decide)
theorem p2_cast (k : Nat) : ((2 ^ k : Nat) : Int) = 2 ^ k := by simp
theorem p2_mono {i j : Nat} (h : i ≤ j) : (2 : Int) ^ i ≤ 2 ^ j := by
  rw [← p2_cast, ← p2_cast]; exact Int.ofNat_le.mpr (Nat.pow_le_pow_right (by decide) h)
theorem p2_le {n : Int} (h : n ≤ 16) : (2 : Int) ^ n.toNat ≤ 65536 := by
  have := p2_mono (i := n.toNat) (j := 16) (by omega); simpa using this
theorem p2_ge {n : Int} (h : 1 ≤ n) : (2 : Int) ≤ 2 ^ n.toNat := by
  have := p2_mono (i := 1) (j := n.toNat) (by omega); simpa using this
theorem p2_ge1 (k : Nat) : (1 : Int) ≤ 2 ^ k := by have := p2_pos k; omega
theorem p2_half {n : Int} (h : 1 ≤ n) : (2 : Int) ^ n.toNat = 2 * 2 ^ (n.toNat - 1) := by
  obtain ⟨k, hk⟩ : ∃ k, n.toNat = k + 1 := ⟨n.toNat - 1, by omega⟩
  rw [hk, Int.pow_succ, Nat.add_sub_cancel]; omega
theorem p2_add (i j : Nat) : (2 : Int) ^ (i + j) = 2 ^ i * 2 ^ j := Int.pow_add ..

/-- A word of a width. -/
def WOk (w v : Int) : Prop := 1 ≤ w ∧ w ≤ 16 ∧ 0 ≤ v ∧ v < 2 ^ w.toNat
instance (w v : Int) : Decidable (WOk w v) := by unfold WOk; infer_instance
/-- A word as a number with a sign. -/
def sgn (w v : Int) : Int := if WOk w v then (if 2 ^ (w.toNat - 1) ≤ v then v - 2 ^ w.toNat else v) else 0
/-- A number as a word. -/
def frm (w n : Int) : Int := if 1 ≤ w ∧ w ≤ 16 then n % 2 ^ w.toNat else 0

theorem WOk.lt {w v : Int} (h : WOk w v) : v < 65536 := Int.lt_of_lt_of_le h.2.2.2 (p2_le h.2.1)
theorem frm_ok {w : Int} (n : Int) (h1 : 1 ≤ w) (h2 : w ≤ 16) : WOk w (frm w n) := by
  unfold frm; rw [if_pos ⟨h1, h2⟩]
  exact ⟨h1, h2, Int.emod_nonneg _ (by have := p2_pos w.toNat; omega), Int.emod_lt_of_pos _ (p2_pos _)⟩
theorem frm_eq {w : Int} (n : Int) (h1 : 1 ≤ w) (h2 : w ≤ 16) : frm w n = n % 2 ^ w.toNat := by
  unfold frm; rw [if_pos ⟨h1, h2⟩]
theorem frm_bound (w n : Int) : 0 ≤ frm w n ∧ frm w n < 65536 := by
  by_cases h : 1 ≤ w ∧ w ≤ 16
  · have := frm_ok n h.1 h.2; exact ⟨this.2.2.1, this.lt⟩
  · unfold frm; rw [if_neg h]; omega
theorem sgn_bound (w v : Int) : -65536 < sgn w v ∧ sgn w v < 65536 := by
  unfold sgn
  by_cases h : WOk w v
  · rw [if_pos h]; have := h.lt; have := p2_le h.2.1; have := p2_half h.1; have := p2_pos (w.toNat - 1)
    have := h.2.2.1
    split <;> omega
  · rw [if_neg h]; omega
theorem sgn_eq {w v : Int} (h : WOk w v) : sgn w v = if 2 ^ (w.toNat - 1) ≤ v then v - 2 ^ w.toNat else v := by
  unfold sgn; rw [if_pos h]
theorem sgn_range {w v : Int} (h : WOk w v) : -(2 ^ (w.toNat - 1)) ≤ sgn w v ∧ sgn w v < 2 ^ (w.toNat - 1) := by
  rw [sgn_eq h]; have := p2_half h.1; have := h.2.2.1; have := h.2.2.2
  split <;> omega
theorem frm_sgn {w v : Int} (h : WOk w v) : frm w (sgn w v) = v := by
  rw [frm_eq _ h.1 h.2.1, sgn_eq h]
  split
  · rw [Int.sub_emod_right, Int.emod_eq_of_lt h.2.2.1 h.2.2.2]
  · rw [Int.emod_eq_of_lt h.2.2.1 h.2.2.2]
theorem frm_self {w v : Int} (h : WOk w v) : frm w v = v := by
  rw [frm_eq _ h.1 h.2.1, Int.emod_eq_of_lt h.2.2.1 h.2.2.2]

theorem emod_of_tmod (v p : Int) (hp : 0 < p) : v % p = if v.tmod p < 0 then v.tmod p + p else v.tmod p := by
  have e := @Int.emod_eq_tmod v p
  have h0 := Int.emod_nonneg v (b := p) (by omega)
  have h1 := Int.emod_lt_of_pos v hp
  have h2 : (p.natAbs : Int) = p := by omega
  by_cases hc : 0 ≤ v ∨ p ∣ v
  · rw [if_pos hc] at e
    split <;> omega
  · rw [if_neg hc] at e
    split <;> omega
theorem tmod_bounds (v p : Int) (hp : 0 < p) : -p < v.tmod p ∧ v.tmod p < p := by
  have e := emod_of_tmod v p hp
  have h0 := Int.emod_nonneg v (b := p) (by omega)
  have h1 := Int.emod_lt_of_pos v hp
  have h2 : v % p = 0 → v.tmod p = 0 := fun h => Int.tmod_eq_zero_of_dvd (Int.dvd_of_emod_eq_zero h)
  split at e <;> omega

/-! ### bits of int64 -/
theorem i64_mask (n : Int) (k : Nat) (hk : k ≤ 62) : bits .and .i64 n (2 ^ k - 1) = n % 2 ^ k := by
  have hle : (2 : Nat) ^ k ≤ 2 ^ 62 := Nat.pow_le_pow_right (by decide) hk
  have hp : 0 < (2 : Nat) ^ k := Nat.pow_pos (by decide)
  have hc := p2_cast k
  have e1 : (BitVec.ofInt 64 (2 ^ k - 1)).toNat = 2 ^ k - 1 := by
    rw [BitVec.toNat_ofInt, ← hc]; omega
  have key : (BitVec.ofInt 64 n &&& BitVec.ofInt 64 (2 ^ k - 1)).toNat = (n % ((2 ^ 64 : Nat) : Int)).toNat % 2 ^ k := by
    rw [BitVec.toNat_and, BitVec.toNat_ofInt, e1, Nat.and_two_pow_sub_one_eq_mod]
  show IntKind.i64.wrap ((BitVec.ofInt 64 n &&& BitVec.ofInt 64 (2 ^ k - 1)).toNat : Nat) = n % 2 ^ k
  rw [key, IntKind.wrap_i64]
  have hlt : (n % ((2 ^ 64 : Nat) : Int)).toNat % 2 ^ k < 2 ^ k := Nat.mod_lt _ hp
  have e2 : (((n % ((2 ^ 64 : Nat) : Int)).toNat % 2 ^ k : Nat) : Int) = n % 2 ^ k := by
    rw [Int.natCast_emod, Int.toNat_of_nonneg (Int.emod_nonneg _ (by decide)), hc]
    have hd : (2 : Int) ^ k ∣ ((2 ^ 64 : Nat) : Int) := by
      have : (2 : Nat) ^ k ∣ 2 ^ 64 := Nat.pow_dvd_pow 2 (by omega)
      rw [← hc]; exact Int.natCast_dvd_natCast.mpr this
    exact Int.emod_emod_of_dvd n hd
  rw [e2]
  have h0 := Int.emod_nonneg n (b := 2 ^ k) (by have := p2_pos k; omega)
  have h1 := Int.emod_lt_of_pos n (p2_pos k)
  have h2 : (2 : Int) ^ k ≤ 4611686018427387904 := by have := p2_mono (i := k) (j := 62) hk; simpa using this
  omega
theorem i64_one (n : Int) : bits .and .i64 n 1 = n % 2 := by
  have := i64_mask n 1 (by decide); simpa using this
theorem ofInt64 (a : Int) (h1 : 0 ≤ a) (h2 : a < 4611686018427387904) : (BitVec.ofInt 64 a).toNat = a.toNat := by
  rw [BitVec.toNat_ofInt]; omega
theorem i64_and (a b : Int) (h1 : 0 ≤ a) (h2 : a < 65536) (h3 : 0 ≤ b) (h4 : b < 65536) : bits .and .i64 a b = ((a.toNat &&& b.toNat : Nat) : Int) := by
  show IntKind.i64.wrap ((BitVec.ofInt 64 a &&& BitVec.ofInt 64 b).toNat : Nat) = _
  rw [BitVec.toNat_and, ofInt64 a h1 (by omega), ofInt64 b h3 (by omega), IntKind.wrap_i64]
  have := Nat.and_lt_two_pow (x := a.toNat) (y := b.toNat) (n := 16) (by omega)
  omega
theorem i64_or (a b : Int) (h1 : 0 ≤ a) (h2 : a < 65536) (h3 : 0 ≤ b) (h4 : b < 65536) : bits .or .i64 a b = ((a.toNat ||| b.toNat : Nat) : Int) := by
  show IntKind.i64.wrap ((BitVec.ofInt 64 a ||| BitVec.ofInt 64 b).toNat : Nat) = _
  rw [BitVec.toNat_or, ofInt64 a h1 (by omega), ofInt64 b h3 (by omega), IntKind.wrap_i64]
  have := Nat.or_lt_two_pow (x := a.toNat) (y := b.toNat) (n := 16) (by omega) (by omega)
  omega
theorem i64_xor (a b : Int) (h1 : 0 ≤ a) (h2 : a < 65536) (h3 : 0 ≤ b) (h4 : b < 65536) : bits .xor .i64 a b = ((a.toNat ^^^ b.toNat : Nat) : Int) := by
  show IntKind.i64.wrap ((BitVec.ofInt 64 a ^^^ BitVec.ofInt 64 b).toNat : Nat) = _
  rw [BitVec.toNat_xor, ofInt64 a h1 (by omega), ofInt64 b h3 (by omega), IntKind.wrap_i64]
  have := Nat.xor_lt_two_pow (x := a.toNat) (y := b.toNat) (n := 16) (by omega) (by omega)
  omega
end Go.Proofs.Ytnbmhnbcmfcchaa
