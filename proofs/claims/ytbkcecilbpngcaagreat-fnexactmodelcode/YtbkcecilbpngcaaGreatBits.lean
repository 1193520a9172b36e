/-
  Plain arithmetic of two words (no Go in sight): bits of and, or, xor; shifts; turns.
-/
import Derived.WalkKit
import Derived.Laws.BitsLemmas
import Derived.Laws.BitsAllLaws
import Derived.Test.YtbkcecilbpngcaaGreatPaA
namespace Go.Proofs.YtbkcecilbpngcaaGreat
open Go.RowKit

theorem mod_succ' (k : Nat) (a : Int) : a % 2 ^ (k + 1) = a % 2 ^ k + (a / 2 ^ k % 2) * 2 ^ k := by
  have hp := p2_pos k
  rw [Int.pow_succ]
  have e1 := Int.emod_add_mul_ediv a (2 ^ k)
  have e2 := Int.emod_add_mul_ediv (a / 2 ^ k) 2
  have e3 := Int.emod_add_mul_ediv a (2 ^ k * 2)
  rw [← Int.ediv_ediv_of_nonneg (by omega)] at e3
  have e4 : (2 : Int) ^ k * 2 * (a / 2 ^ k / 2) = 2 ^ k * (2 * (a / 2 ^ k / 2)) := Int.mul_assoc ..
  have e5 : (2 : Int) ^ k * (a / 2 ^ k) = 2 ^ k * (a / 2 ^ k % 2) + 2 ^ k * (2 * (a / 2 ^ k / 2)) := by
    rw [← Int.mul_add, e2]
  rw [Int.mul_comm (a / 2 ^ k % 2)]
  omega
theorem div_div_p2 (x : Int) (i j : Nat) : x / 2 ^ i / 2 ^ j = x / 2 ^ (i + j) := by
  rw [Int.ediv_ediv_of_nonneg (Int.le_of_lt (p2_pos i)), ← p2_add]
theorem bit_mod (x : Int) {n k : Nat} (h : k < n) : x % 2 ^ n / 2 ^ k % 2 = x / 2 ^ k % 2 := by
  obtain ⟨d, rfl⟩ : ∃ d, n = k + (d + 1) := ⟨n - k - 1, by omega⟩
  have e : x % 2 ^ (k + (d + 1)) = x + 2 ^ k * (-(2 * 2 ^ d * (x / 2 ^ (k + (d + 1))))) := by
    have := Int.emod_add_mul_ediv x (2 ^ (k + (d + 1)))
    rw [p2_add, Int.pow_succ] at this ⊢
    have e2 : (2 : Int) ^ k * (2 ^ d * 2) * (x / (2 ^ k * (2 ^ d * 2))) = 2 ^ k * (2 * 2 ^ d * (x / (2 ^ k * (2 ^ d * 2)))) := by
      rw [Int.mul_assoc, Int.mul_comm (2 ^ d) 2]
    rw [Int.mul_neg]
    omega
  rw [e, Int.add_mul_ediv_left _ _ (by have := p2_pos k; omega), Int.mul_assoc, ← Int.mul_neg]
  omega
theorem div_small {x : Int} {k : Nat} (h0 : 0 ≤ x) (h : x < 2 ^ k) : x / 2 ^ k = 0 := Int.ediv_eq_zero_of_lt h0 h
theorem mod_small {x : Int} {k : Nat} (h0 : 0 ≤ x) (h : x < 2 ^ k) : x % 2 ^ k = x := Int.emod_eq_of_lt h0 h
theorem mod_mod_p2 (x : Int) {i j : Nat} (h : i ≤ j) : x % 2 ^ j % 2 ^ i = x % 2 ^ i := by
  apply Int.emod_emod_of_dvd
  rw [show j = i + (j - i) by omega, p2_add]
  exact Int.dvd_mul_right ..
theorem mod_nonneg (x : Int) (k : Nat) : 0 ≤ x % 2 ^ k := Int.emod_nonneg _ (by have := p2_pos k; omega)
theorem mod_lt (x : Int) (k : Nat) : x % 2 ^ k < 2 ^ k := Int.emod_lt_of_pos _ (p2_pos k)

/-! ### and, or, xor, bit by bit -/
theorem nat_bit01 (x i : Nat) : x / 2 ^ i % 2 = (x.testBit i).toNat := by
  rw [Nat.testBit_eq_decide_div_mod_eq]
  rcases (by omega : x / 2 ^ i % 2 = 0 ∨ x / 2 ^ i % 2 = 1) with h | h <;> rw [h] <;> rfl
theorem int_bit01 {a : Int} (h : 0 ≤ a) (i : Nat) : a / 2 ^ i % 2 = ((a.toNat.testBit i).toNat : Int) := by
  rw [← nat_bit01, Int.natCast_emod, Int.natCast_ediv, p2_cast, Int.toNat_of_nonneg h]; rfl
theorem cast_bit01 (x i : Nat) : (x : Int) / 2 ^ i % 2 = ((x.testBit i).toNat : Int) := by
  rw [← nat_bit01, Int.natCast_emod, Int.natCast_ediv, p2_cast]; rfl
def vAnd (a b : Int) : Int := ((a.toNat &&& b.toNat : Nat) : Int)
def vOr (a b : Int) : Int := ((a.toNat ||| b.toNat : Nat) : Int)
def vXor (a b : Int) : Int := ((a.toNat ^^^ b.toNat : Nat) : Int)
theorem bit_vAnd {a b : Int} (ha : 0 ≤ a) (hb : 0 ≤ b) (i : Nat) : vAnd a b / 2 ^ i % 2 = (a / 2 ^ i % 2) * (b / 2 ^ i % 2) := by
  unfold vAnd; rw [cast_bit01, int_bit01 ha, int_bit01 hb, Nat.testBit_and]
  cases a.toNat.testBit i <;> cases b.toNat.testBit i <;> rfl
theorem bit_vOr {a b : Int} (ha : 0 ≤ a) (hb : 0 ≤ b) (i : Nat) : vOr a b / 2 ^ i % 2 = a / 2 ^ i % 2 + b / 2 ^ i % 2 - (a / 2 ^ i % 2) * (b / 2 ^ i % 2) := by
  unfold vOr; rw [cast_bit01, int_bit01 ha, int_bit01 hb, Nat.testBit_or]
  cases a.toNat.testBit i <;> cases b.toNat.testBit i <;> rfl
theorem bit_vXor {a b : Int} (ha : 0 ≤ a) (hb : 0 ≤ b) (i : Nat) : vXor a b / 2 ^ i % 2 = (a / 2 ^ i % 2 + b / 2 ^ i % 2) % 2 := by
  unfold vXor; rw [cast_bit01, int_bit01 ha, int_bit01 hb, Nat.testBit_xor]
  cases a.toNat.testBit i <;> cases b.toNat.testBit i <;> rfl
theorem toNat_lt_p2 {n a : Int} (h : WOk n a) : a.toNat < 2 ^ n.toNat := by
  have := h.2.2.2; have := h.2.2.1; rw [← p2_cast] at *; omega
theorem vAnd_ok {n a b : Int} (ha : WOk n a) (hb : WOk n b) : WOk n (vAnd a b) := by
  refine ⟨ha.1, ha.2.1, by unfold vAnd; omega, ?_⟩
  have := Nat.and_lt_two_pow (x := a.toNat) (toNat_lt_p2 hb); unfold vAnd; rw [← p2_cast]; omega
theorem vOr_ok {n a b : Int} (ha : WOk n a) (hb : WOk n b) : WOk n (vOr a b) := by
  refine ⟨ha.1, ha.2.1, by unfold vOr; omega, ?_⟩
  have := Nat.or_lt_two_pow (toNat_lt_p2 ha) (toNat_lt_p2 hb); unfold vOr; rw [← p2_cast]; omega
theorem vXor_ok {n a b : Int} (ha : WOk n a) (hb : WOk n b) : WOk n (vXor a b) := by
  refine ⟨ha.1, ha.2.1, by unfold vXor; omega, ?_⟩
  have := Nat.xor_lt_two_pow (toNat_lt_p2 ha) (toNat_lt_p2 hb); unfold vXor; rw [← p2_cast]; omega

/-! ### quotients -/
def vDiv (n a b : Int) : Int := if b = 0 then 2 ^ n.toNat - 1 else a / b
def vRem (a b : Int) : Int := if b = 0 then a else a % b
def vSdiv (n a b : Int) : Int := if b = 0 then (if sgn n a < 0 then 1 else 2 ^ n.toNat - 1) else frm n ((sgn n a).tdiv (sgn n b))
def vSrem (n a b : Int) : Int := if b = 0 then a else frm n ((sgn n a).tmod (sgn n b))
theorem sgn_zero {n : Int} : sgn n 0 = 0 := by
  unfold sgn; split
  · rw [if_neg (by have := p2_pos (n.toNat - 1); omega)]
  · rfl
theorem sgn_ne_zero {n b : Int} (h : WOk n b) (hb : ¬ b = 0) : ¬ sgn n b = 0 := by
  intro e; have := frm_sgn h; rw [e, frm_eq _ h.1 h.2.1, Int.zero_emod] at this; exact hb this.symm
theorem tdiv_bound {x y : Int} (hx : -65536 < x ∧ x < 65536) : -65536 < x.tdiv y ∧ x.tdiv y < 65536 := by
  have h : (x.tdiv y).natAbs ≤ x.natAbs := by rw [Int.natAbs_tdiv]; exact Nat.div_le_self ..
  omega
theorem tmod_bound {x y : Int} (hx : -65536 < x ∧ x < 65536) : -65536 < x.tmod y ∧ x.tmod y < 65536 := by
  have h : (x.tmod y).natAbs ≤ x.natAbs := by rw [Int.natAbs_tmod]; exact Nat.mod_le ..
  omega
theorem mul_bound {a b : Int} (h1 : 0 ≤ a) (h2 : a < 65536) (h3 : 0 ≤ b) (h4 : b < 65536) : 0 ≤ a * b ∧ a * b < 4294967296 := by
  refine ⟨Int.mul_nonneg h1 h3, ?_⟩
  have : a * b ≤ 65535 * 65535 := Int.mul_le_mul (by omega) (by omega) h3 (by omega)
  omega
theorem div_bound {a b : Int} (h1 : 0 ≤ a) (h2 : a < 65536) (h3 : 0 ≤ b) : 0 ≤ a / b ∧ a / b < 65536 := by
  have := Int.ediv_nonneg h1 h3
  have := Int.ediv_le_self b h1
  omega

/-! ### shifts -/
def vShl (n a b : Int) : Int := frm n (a * 2 ^ b.toNat)
def vShr (a b : Int) : Int := a / 2 ^ b.toNat
def vSar (n a b : Int) : Int := frm n (sgn n a / 2 ^ b.toNat)

theorem frm_wrap (n x : Int) : frm n (wrap64 x) = frm n x := by
  by_cases h : 1 ≤ n ∧ n ≤ 16
  · rw [frm_eq _ h.1 h.2, frm_eq _ h.1 h.2]
    have hd : (2 : Int) ^ n.toNat ∣ 18446744073709551616 := by
      rw [show (18446744073709551616 : Int) = 2 ^ n.toNat * 2 ^ (64 - n.toNat) by rw [← p2_add, show n.toNat + (64 - n.toNat) = 64 by omega]; rfl]
      exact Int.dvd_mul_right ..
    have e : wrap64 x = x - 18446744073709551616 * ((x + 9223372036854775808) / 18446744073709551616) := by
      unfold wrap64; omega
    rw [e]
    obtain ⟨c, hc⟩ := hd
    rw [hc, Int.mul_assoc, Int.sub_mul_emod_self_left]
  · unfold frm; rw [if_neg h, if_neg h]
theorem shl_min (n a : Int) (b : Nat) : frm n (a * 2 ^ min b 64) = frm n (a * 2 ^ b) := by
  by_cases hb : b ≤ 64
  · rw [Nat.min_eq_left hb]
  · rw [Nat.min_eq_right (by omega)]
    by_cases h : 1 ≤ n ∧ n ≤ 16
    · rw [frm_eq _ h.1 h.2, frm_eq _ h.1 h.2]
      have z : ∀ j : Nat, n.toNat ≤ j → a * 2 ^ j % 2 ^ n.toNat = 0 := fun j hj => by
        rw [show j = n.toNat + (j - n.toNat) by omega, p2_add, ← Int.mul_assoc, Int.mul_comm a, Int.mul_assoc]
        exact Int.mul_emod_right ..
      rw [z 64 (by omega), z b (by omega)]
    · unfold frm; rw [if_neg h, if_neg h]
theorem shr_min {a : Int} (h1 : -65536 ≤ a) (h2 : a < 65536) (b : Nat) : a / 2 ^ min b 64 = a / 2 ^ b := by
  by_cases hb : b ≤ 64
  · rw [Nat.min_eq_left hb]
  · rw [Nat.min_eq_right (by omega)]
    have e : ∀ j : Nat, 17 ≤ j → a / 2 ^ j = if 0 ≤ a then 0 else -1 := fun j hj => by
      have hp : (131072 : Int) ≤ 2 ^ j := by have := p2_mono (i := 17) (j := j) hj; simpa using this
      split
      · exact Int.ediv_eq_zero_of_lt (by omega) (by omega)
      · have := Int.add_mul_ediv_right a 1 (c := 2 ^ j) (by omega)
        rw [Int.ediv_eq_zero_of_lt (by omega) (by omega)] at this
        omega
    rw [e 64 (by omega), e b (by omega)]
theorem bit_shl {n a : Int} (b k : Nat) (h1 : 1 ≤ n) (h2 : n ≤ 16) (hk : k < n.toNat) : frm n (a * 2 ^ b) / 2 ^ k % 2 = if b ≤ k then a / 2 ^ (k - b) % 2 else 0 := by
  rw [frm_eq _ h1 h2, bit_mod _ hk]
  split
  · rename_i h
    obtain ⟨d, rfl⟩ : ∃ d, k = b + d := ⟨k - b, by omega⟩
    rw [← div_div_p2, Int.mul_ediv_cancel _ (by have := p2_pos b; omega), Nat.add_sub_cancel_left]
  · obtain ⟨d, rfl⟩ : ∃ d, b = k + (d + 1) := ⟨b - k - 1, by omega⟩
    rw [p2_add, Int.mul_comm (2 ^ k), ← Int.mul_assoc, Int.mul_ediv_cancel _ (by have := p2_pos k; omega), Int.pow_succ, ← Int.mul_assoc]
    omega
theorem bit_shr (a : Int) (b k : Nat) : a / 2 ^ b / 2 ^ k % 2 = a / 2 ^ (k + b) % 2 := by
  rw [div_div_p2, Nat.add_comm]
theorem bit_high {n a : Int} (h : WOk n a) {k : Nat} (hk : n.toNat ≤ k) : a / 2 ^ k % 2 = 0 := by
  rw [div_small h.2.2.1 (Int.lt_of_lt_of_le h.2.2.2 (p2_mono hk))]; rfl
theorem sgn_low {n a : Int} (h : WOk n a) {k : Nat} (hk : k < n.toNat) : sgn n a / 2 ^ k % 2 = a / 2 ^ k % 2 := by
  rw [← bit_mod (sgn n a) hk, ← frm_eq _ h.1 h.2.1, frm_sgn h]
theorem sgn_high {n a : Int} (h : WOk n a) {k : Nat} (hk : n.toNat ≤ k + 1) : sgn n a / 2 ^ k % 2 = a / 2 ^ (n.toNat - 1) % 2 := by
  have hr := sgn_range h
  have hp := p2_pos (n.toNat - 1)
  have hm : (2 : Int) ^ (n.toNat - 1) ≤ 2 ^ k := p2_mono (by omega)
  have h3 := h.2.2.1
  have h4 := h.2.2.2
  rw [p2_half h.1] at h4
  have es := sgn_eq h
  by_cases hc : 2 ^ (n.toNat - 1) ≤ a
  · rw [if_pos hc, p2_half h.1] at es
    have e1 : a / 2 ^ (n.toNat - 1) = 1 := by
      have := Int.add_mul_ediv_right (a - 2 ^ (n.toNat - 1)) 1 (c := 2 ^ (n.toNat - 1)) (by omega)
      have z : (a - 2 ^ (n.toNat - 1)) / 2 ^ (n.toNat - 1) = 0 := Int.ediv_eq_zero_of_lt (by omega) (by omega)
      rw [z, show a - 2 ^ (n.toNat - 1) + 1 * 2 ^ (n.toNat - 1) = a by omega] at this
      omega
    have e2 : sgn n a / 2 ^ k = -1 := by
      have := Int.add_mul_ediv_right (sgn n a) 1 (c := 2 ^ k) (by omega)
      rw [Int.ediv_eq_zero_of_lt (by omega) (by omega)] at this
      omega
    rw [e1, e2]; rfl
  · rw [if_neg hc] at es
    rw [es, Int.ediv_eq_zero_of_lt h3 (by omega), Int.ediv_eq_zero_of_lt h3 (by omega)]
theorem bit_sar {n a : Int} (h : WOk n a) (b k : Nat) (hk : k < n.toNat) : frm n (sgn n a / 2 ^ b) / 2 ^ k % 2 = if k + b < n.toNat then a / 2 ^ (k + b) % 2 else a / 2 ^ (n.toNat - 1) % 2 := by
  rw [frm_eq _ h.1 h.2.1, bit_mod _ hk, bit_shr]
  split
  · rename_i hlt; exact sgn_low h hlt
  · exact sgn_high h (by omega)

/-! ### turns: by r places up, of N bits -/
def turn (N r : Nat) (a : Int) : Int := (a % 2 ^ (N - r)) * 2 ^ r + a / 2 ^ (N - r)
/-- What the first k bits have become. -/
def turnAt (N r k : Nat) (a : Int) : Int := if k ≤ N - r then (a % 2 ^ k) * 2 ^ r else (a % 2 ^ (N - r)) * 2 ^ r + (a % 2 ^ k) / 2 ^ (N - r)
theorem turnAt_zero (N r : Nat) (a : Int) : turnAt N r 0 a = 0 := by
  unfold turnAt; rw [if_pos (by omega)]; simp [Int.emod_one]
theorem turnAt_all {N r : Nat} (hr : r < N) {a : Int} (h0 : 0 ≤ a) (h1 : a < 2 ^ N) : turnAt N r N a = turn N r a := by
  unfold turnAt turn
  by_cases h : r = 0
  · subst h; rw [if_pos (by omega), Nat.sub_zero, div_small h0 h1]; omega
  · rw [if_neg (by omega), mod_small h0 h1]
/-- Where bit k comes to. -/
def spot (N r k : Nat) : Nat := if k < N - r then k + r else k + r - N
theorem turnAt_succ {N r k : Nat} (hr : r < N) (a : Int) : turnAt N r (k + 1) a = turnAt N r k a + (a / 2 ^ k % 2) * 2 ^ spot N r k := by
  unfold turnAt spot
  by_cases h : k < N - r
  · rw [if_pos (by omega), if_pos (by omega), if_pos h, mod_succ', Int.add_mul, Int.mul_assoc, ← p2_add]
  · rw [if_neg (by omega), if_neg h, mod_succ']
    obtain ⟨d, rfl⟩ : ∃ d, k = (N - r) + d := ⟨k - (N - r), by omega⟩
    have e : N - r + d + r - N = d := by omega
    rw [e, p2_add, Int.mul_comm (2 ^ (N - r)) (2 ^ d), ← Int.mul_assoc, Int.add_mul_ediv_right _ _ (by have := p2_pos (N - r); omega)]
    by_cases hd : d = 0
    · subst hd; rw [if_pos (by omega)]
      rw [Int.pow_zero, Int.one_mul, div_small (mod_nonneg ..) (mod_lt ..)]; omega
    · rw [if_neg (by omega)]; omega
theorem turnAt_nonneg (N r k : Nat) (a : Int) : 0 ≤ turnAt N r k a := by
  have h1 : 0 ≤ (a % 2 ^ k) * 2 ^ r := Int.mul_nonneg (mod_nonneg ..) (Int.le_of_lt (p2_pos _))
  have h2 : 0 ≤ (a % 2 ^ (N - r)) * 2 ^ r := Int.mul_nonneg (mod_nonneg ..) (Int.le_of_lt (p2_pos _))
  have h3 : 0 ≤ (a % 2 ^ k) / 2 ^ (N - r) := Int.ediv_nonneg (mod_nonneg ..) (Int.le_of_lt (p2_pos _))
  unfold turnAt; split <;> omega
theorem mul_p2_lt {x : Int} {i j : Nat} (h : x < 2 ^ i) : x * 2 ^ j + 2 ^ j ≤ 2 ^ (i + j) := by
  have : (x + 1) * 2 ^ j ≤ 2 ^ i * 2 ^ j := Int.mul_le_mul_of_nonneg_right (by omega) (Int.le_of_lt (p2_pos j))
  rw [Int.add_mul, ← p2_add] at this; omega
theorem turnAt_lt {N r k : Nat} (hr : r < N) (hk : k ≤ N) (a : Int) : turnAt N r k a < 2 ^ N := by
  have hp := p2_pos r
  unfold turnAt
  split
  · have h1 := mul_p2_lt (i := k) (j := r) (mod_lt a k)
    have : (2 : Int) ^ (k + r) ≤ 2 ^ N := p2_mono (by omega)
    omega
  · have h1 := mul_p2_lt (i := N - r) (j := r) (mod_lt a (N - r))
    rw [show N - r + r = N by omega] at h1
    have h2 : (a % 2 ^ k) / 2 ^ (N - r) < 2 ^ r := by
      rw [Int.ediv_lt_iff_lt_mul (p2_pos _), ← p2_add, show r + (N - r) = N by omega]
      exact Int.lt_of_lt_of_le (mod_lt ..) (p2_mono hk)
    omega
/-- The spot of bit k is still free. -/
theorem turnAt_free {N r k : Nat} (hr : r < N) (hk : k < N) (a : Int) : turnAt N r k a / 2 ^ spot N r k % 2 = 0 := by
  unfold turnAt spot
  by_cases h : k < N - r
  · rw [if_pos (by omega), if_pos h]
    have h1 := mul_p2_lt (i := k) (j := r) (mod_lt a k)
    have hp := p2_pos r
    rw [div_small (Int.mul_nonneg (mod_nonneg ..) (by omega)) (by omega)]; rfl
  · rw [if_neg h]
    obtain ⟨d, rfl⟩ : ∃ d, k = (N - r) + d := ⟨k - (N - r), by omega⟩
    rw [show N - r + d + r - N = d by omega]
    obtain ⟨q, hq⟩ : ∃ q, r = d + (q + 1) := ⟨r - d - 1, by omega⟩
    have e1 : (a % 2 ^ (N - r)) * 2 ^ r = (2 * (2 ^ q * (a % 2 ^ (N - r)))) * 2 ^ d := by
      rw [show (2 : Int) ^ r = 2 ^ q * 2 * 2 ^ d by rw [hq, p2_add, Int.pow_succ, Int.mul_comm]]
      rw [← Int.mul_assoc, ← Int.mul_assoc, Int.mul_comm _ (2 ^ q), Int.mul_comm _ 2]
    have hp := p2_pos d
    by_cases hd : d = 0
    · subst hd
      rw [if_pos (by omega), Nat.add_zero, e1, Int.mul_ediv_cancel _ (by omega)]; omega
    · rw [if_neg (by omega), e1, Int.add_comm, Int.add_mul_ediv_right _ _ (by omega)]
      have h2 : (a % 2 ^ (N - r + d)) / 2 ^ (N - r) < 2 ^ d := by
        rw [Int.ediv_lt_iff_lt_mul (p2_pos _), ← p2_add, Nat.add_comm d]
        exact mod_lt ..
      rw [div_small (Int.ediv_nonneg (mod_nonneg ..) (Int.le_of_lt (p2_pos _))) h2]; omega
theorem nat_or_free (x p : Nat) (h : x / 2 ^ p % 2 = 0) : x ||| 2 ^ p = x + 2 ^ p := by
  have h1 : x = 2 ^ (p + 1) * (x / 2 ^ (p + 1)) + x % 2 ^ p := by
    have := Nat.mod_pow_succ (x := x) (b := 2) (k := p)
    have e := Nat.div_add_mod x (2 ^ (p + 1))
    rw [h, Nat.mul_zero, Nat.add_zero] at this
    omega
  have hlt : x % 2 ^ p < 2 ^ p := Nat.mod_lt _ (Nat.pow_pos (by decide))
  have e2 : x % 2 ^ p ||| 2 ^ p = 2 ^ p + x % 2 ^ p := by
    have := Nat.two_pow_add_eq_or_of_lt hlt 1
    rw [Nat.mul_one] at this; rw [Nat.or_comm, ← this]
  have hlt2 : 2 ^ p + x % 2 ^ p < 2 ^ (p + 1) := by rw [Nat.pow_succ]; omega
  have hlt3 : x % 2 ^ p < 2 ^ (p + 1) := by rw [Nat.pow_succ]; omega
  generalize x / 2 ^ (p + 1) = q at h1
  generalize x % 2 ^ p = s at *
  subst h1
  rw [Nat.two_pow_add_eq_or_of_lt hlt3, Nat.or_assoc, e2, ← Nat.two_pow_add_eq_or_of_lt hlt2, ← Nat.two_pow_add_eq_or_of_lt hlt3]
  omega
theorem or_free {x c : Int} {p : Nat} (h0 : 0 ≤ x) (h1 : x < 65536) (hp : p < 16) (hf : x / 2 ^ p % 2 = 0) (hc : c = 0 ∨ c = 1) : bits .or .i64 x (c * 2 ^ p) = x + c * 2 ^ p := by
  have hp16 : (2 : Int) ^ p < 65536 := by
    have := p2_mono (i := p) (j := 15) (by omega); have e : (2 : Int) ^ 15 = 32768 := by decide
    omega
  have hpp := p2_pos p
  rcases hc with rfl | rfl
  · rw [Int.zero_mul, i64_or _ _ h0 h1 (by omega) (by omega)]; simp; omega
  · rw [Int.one_mul, i64_or _ _ h0 h1 (by omega) (by omega)]
    have e : ((2 : Int) ^ p).toNat = 2 ^ p := by rw [← p2_cast]; rfl
    have hf' : x.toNat / 2 ^ p % 2 = 0 := by
      have : ((x.toNat / 2 ^ p % 2 : Nat) : Int) = 0 := by
        rw [Int.natCast_emod, Int.natCast_ediv, p2_cast, Int.toNat_of_nonneg h0]; exact hf
      omega
    rw [e, nat_or_free _ _ hf', Int.natCast_add, p2_cast, Int.toNat_of_nonneg h0]
theorem turn_ok {N r : Nat} (hr : r < N) {a : Int} (h0 : 0 ≤ a) (h1 : a < 2 ^ N) : 0 ≤ turn N r a ∧ turn N r a < 2 ^ N := by
  rw [← turnAt_all hr h0 h1]; exact ⟨turnAt_nonneg .., turnAt_lt hr (Nat.le_refl _) a⟩
/-- Turning by r and then by N - r is turning not at all. -/
theorem turn_back {N r : Nat} (hr : 0 < r) (hr2 : r < N) {a : Int} (h0 : 0 ≤ a) (h1 : a < 2 ^ N) : turn N (N - r) (turn N r a) = a := by
  unfold turn
  rw [show N - (N - r) = r by omega]
  have hlo : 0 ≤ a / 2 ^ (N - r) := Int.ediv_nonneg h0 (Int.le_of_lt (p2_pos _))
  have hlo2 : a / 2 ^ (N - r) < 2 ^ r := by
    rw [Int.ediv_lt_iff_lt_mul (p2_pos _), ← p2_add, show r + (N - r) = N by omega]; exact h1
  have e1 : ((a % 2 ^ (N - r)) * 2 ^ r + a / 2 ^ (N - r)) % 2 ^ r = a / 2 ^ (N - r) := by
    rw [Int.add_comm, Int.add_mul_emod_self_right, mod_small hlo hlo2]
  have e2 : ((a % 2 ^ (N - r)) * 2 ^ r + a / 2 ^ (N - r)) / 2 ^ r = a % 2 ^ (N - r) := by
    rw [Int.add_comm, Int.add_mul_ediv_right _ _ (by have := p2_pos r; omega), div_small hlo hlo2]; omega
  rw [e1, e2, Int.mul_comm]
  have := Int.emod_add_mul_ediv a (2 ^ (N - r))
  omega
theorem turn_zero (N : Nat) {a : Int} (h0 : 0 ≤ a) (h1 : a < 2 ^ N) : turn N 0 a = a := by
  unfold turn; rw [Nat.sub_zero, mod_small h0 h1, div_small h0 h1]; omega
def vRol (n a b : Int) : Int := turn n.toNat (b % n).toNat a
def vRor (n a b : Int) : Int := turn n.toNat ((n - b % n) % n).toNat a
theorem spot_eq {n b : Int} {k : Nat} (h1 : 1 ≤ n) (hk : (k : Int) < n) : (((k : Int) + b) % n).toNat = spot n.toNat (b % n).toNat k := by
  have h2 := Int.emod_nonneg b (b := n) (by omega)
  have h3 := Int.emod_lt_of_pos b (b := n) (by omega)
  unfold spot
  rw [← Int.add_emod_emod]
  generalize b % n = r at *
  split
  · rw [Int.emod_eq_of_lt (by omega) (by omega)]; omega
  · have : ((k : Int) + r) % n = k + r - n := by
      rw [← Int.sub_emod_right, Int.emod_eq_of_lt (by omega) (by omega)]
    rw [this]; omega
end Go.Proofs.YtbkcecilbpngcaaGreat
