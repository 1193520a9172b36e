/-
  Parts: Math, Base, SortS, SortI, KindN, NodeD, Take.
-/
import Derived.WalkKit
import Derived.Laws.BitsLemmas
import Derived.Laws.BitsAllLaws
import Derived.Test.YtbkcecilbpngcaaGreatRows
import Derived.ProofKit
import Derived.OpenShut
import Derived.WalkSpells
import Derived.WalkLawsBesides
import Derived.Outline
import Derived.BigQuiet
import Derived.Laws.Rows
import Derived.RegionTactic
import Derived.Deep.RegionWith
import Derived.Handy
import Derived.LoopTactic
import Derived.Deep.Light
import Derived.Deep.Slices
import Derived.Lib.SmallJoins
import Derived.Deep.RegionHeld3
/-! Plain arithmetic of words (no Go in sight): powers of 2, words, signs, bits; what the loops over bits add up to. -/
namespace Go.Proofs.YtbkcecilbpngcaaGreat
open Go.RowKit

theorem p2_pos (k : Nat) : (0 : Int) < 2 ^ k := Int.pow_pos (by decide)
theorem p2_cast (k : Nat) : ((2 ^ k : Nat) : Int) = 2 ^ k := by simp
theorem p2_mono {i j : Nat} (h : i ≤ j) : (2 : Int) ^ i ≤ 2 ^ j := by
  rw [← p2_cast, ← p2_cast]; exact Int.ofNat_le.mpr (Nat.pow_le_pow_right (by decide) h)
theorem p2_le {n : Int} (h : n ≤ 16) : (2 : Int) ^ n.toNat ≤ 65536 := by
  have := p2_mono (i := n.toNat) (j := 16) (by omega); simpa using this
theorem p2_ge {n : Int} (h : 1 ≤ n) : (2 : Int) ≤ 2 ^ n.toNat := by
  have := p2_mono (i := 1) (j := n.toNat) (by omega); simpa using this
theorem p2_ge1 (k : Nat) : (1 : Int) ≤ 2 ^ k := by have := p2_pos k; omega
theorem p2_half {n : Int} (h : 1 ≤ n) : (2 : Int) ^ n.toNat = 2 * 2 ^ (n.toNat - 1) := by
  obtain ⟨k, hk⟩ : ∃ k, n.toNat = k + 1 := ⟨n.toNat - 1, by omega⟩
  rw [hk, Int.pow_succ, Nat.add_sub_cancel]; omega
theorem p2_add (i j : Nat) : (2 : Int) ^ (i + j) = 2 ^ i * 2 ^ j := Int.pow_add ..

/-- A word of a width. -/
def WOk (w v : Int) : Prop := 1 ≤ w ∧ w ≤ 16 ∧ 0 ≤ v ∧ v < 2 ^ w.toNat
instance (w v : Int) : Decidable (WOk w v) := by unfold WOk; infer_instance
/-- A word as a number with a sign. -/
def sgn (w v : Int) : Int := if WOk w v then (if 2 ^ (w.toNat - 1) ≤ v then v - 2 ^ w.toNat else v) else 0
/-- A number as a word. -/
def frm (w n : Int) : Int := if 1 ≤ w ∧ w ≤ 16 then n % 2 ^ w.toNat else 0

theorem WOk.lt {w v : Int} (h : WOk w v) : v < 65536 := Int.lt_of_lt_of_le h.2.2.2 (p2_le h.2.1)
theorem frm_ok {w : Int} (n : Int) (h1 : 1 ≤ w) (h2 : w ≤ 16) : WOk w (frm w n) := by
  unfold frm; rw [if_pos ⟨h1, h2⟩]
  exact ⟨h1, h2, Int.emod_nonneg _ (by have := p2_pos w.toNat; omega), Int.emod_lt_of_pos _ (p2_pos _)⟩
theorem frm_eq {w : Int} (n : Int) (h1 : 1 ≤ w) (h2 : w ≤ 16) : frm w n = n % 2 ^ w.toNat := by
  unfold frm; rw [if_pos ⟨h1, h2⟩]
theorem frm_bound (w n : Int) : 0 ≤ frm w n ∧ frm w n < 65536 := by
  by_cases h : 1 ≤ w ∧ w ≤ 16
  · have := frm_ok n h.1 h.2; exact ⟨this.2.2.1, this.lt⟩
  · unfold frm; rw [if_neg h]; omega
theorem sgn_bound (w v : Int) : -65536 < sgn w v ∧ sgn w v < 65536 := by
  unfold sgn
  by_cases h : WOk w v
  · rw [if_pos h]; have := h.lt; have := p2_le h.2.1; have := p2_half h.1; have := p2_pos (w.toNat - 1)
    have := h.2.2.1
    split <;> omega
  · rw [if_neg h]; omega
theorem sgn_eq {w v : Int} (h : WOk w v) : sgn w v = if 2 ^ (w.toNat - 1) ≤ v then v - 2 ^ w.toNat else v := by
  unfold sgn; rw [if_pos h]
theorem sgn_range {w v : Int} (h : WOk w v) : -(2 ^ (w.toNat - 1)) ≤ sgn w v ∧ sgn w v < 2 ^ (w.toNat - 1) := by
  rw [sgn_eq h]; have := p2_half h.1; have := h.2.2.1; have := h.2.2.2
  split <;> omega
theorem frm_sgn {w v : Int} (h : WOk w v) : frm w (sgn w v) = v := by
  rw [frm_eq _ h.1 h.2.1, sgn_eq h]
  split
  · rw [Int.sub_emod_right, Int.emod_eq_of_lt h.2.2.1 h.2.2.2]
  · rw [Int.emod_eq_of_lt h.2.2.1 h.2.2.2]
theorem frm_self {w v : Int} (h : WOk w v) : frm w v = v := by
  rw [frm_eq _ h.1 h.2.1, Int.emod_eq_of_lt h.2.2.1 h.2.2.2]

theorem emod_of_tmod (v p : Int) (hp : 0 < p) : v % p = if v.tmod p < 0 then v.tmod p + p else v.tmod p := by
  have e := @Int.emod_eq_tmod v p
  have h0 := Int.emod_nonneg v (b := p) (by omega)
  have h1 := Int.emod_lt_of_pos v hp
  have h2 : (p.natAbs : Int) = p := by omega
  by_cases hc : 0 ≤ v ∨ p ∣ v
  · rw [if_pos hc] at e
    split <;> omega
  · rw [if_neg hc] at e
    split <;> omega
theorem tmod_bounds (v p : Int) (hp : 0 < p) : -p < v.tmod p ∧ v.tmod p < p := by
  have e := emod_of_tmod v p hp
  have h0 := Int.emod_nonneg v (b := p) (by omega)
  have h1 := Int.emod_lt_of_pos v hp
  have h2 : v % p = 0 → v.tmod p = 0 := fun h => Int.tmod_eq_zero_of_dvd (Int.dvd_of_emod_eq_zero h)
  split at e <;> omega

/-! ### bits of int64 -/
theorem i64_mask (n : Int) (k : Nat) (hk : k ≤ 62) : bits .and .i64 n (2 ^ k - 1) = n % 2 ^ k := by
  have hle : (2 : Nat) ^ k ≤ 2 ^ 62 := Nat.pow_le_pow_right (by decide) hk
  have hp : 0 < (2 : Nat) ^ k := Nat.pow_pos (by decide)
  have hc := p2_cast k
  have e1 : (BitVec.ofInt 64 (2 ^ k - 1)).toNat = 2 ^ k - 1 := by
    rw [BitVec.toNat_ofInt, ← hc]; omega
  have key : (BitVec.ofInt 64 n &&& BitVec.ofInt 64 (2 ^ k - 1)).toNat = (n % ((2 ^ 64 : Nat) : Int)).toNat % 2 ^ k := by
    rw [BitVec.toNat_and, BitVec.toNat_ofInt, e1, Nat.and_two_pow_sub_one_eq_mod]
  show IntKind.i64.wrap ((BitVec.ofInt 64 n &&& BitVec.ofInt 64 (2 ^ k - 1)).toNat : Nat) = n % 2 ^ k
  rw [key, IntKind.wrap_i64]
  have hlt : (n % ((2 ^ 64 : Nat) : Int)).toNat % 2 ^ k < 2 ^ k := Nat.mod_lt _ hp
  have e2 : (((n % ((2 ^ 64 : Nat) : Int)).toNat % 2 ^ k : Nat) : Int) = n % 2 ^ k := by
    rw [Int.natCast_emod, Int.toNat_of_nonneg (Int.emod_nonneg _ (by decide)), hc]
    have hd : (2 : Int) ^ k ∣ ((2 ^ 64 : Nat) : Int) := by
      have : (2 : Nat) ^ k ∣ 2 ^ 64 := Nat.pow_dvd_pow 2 (by omega)
      rw [← hc]; exact Int.natCast_dvd_natCast.mpr this
    exact Int.emod_emod_of_dvd n hd
  rw [e2]
  have h0 := Int.emod_nonneg n (b := 2 ^ k) (by have := p2_pos k; omega)
  have h1 := Int.emod_lt_of_pos n (p2_pos k)
  have h2 : (2 : Int) ^ k ≤ 4611686018427387904 := by have := p2_mono (i := k) (j := 62) hk; simpa using this
  omega
theorem i64_one (n : Int) : bits .and .i64 n 1 = n % 2 := by
  have := i64_mask n 1 (by decide); simpa using this
theorem ofInt64 (a : Int) (h1 : 0 ≤ a) (h2 : a < 4611686018427387904) : (BitVec.ofInt 64 a).toNat = a.toNat := by
  rw [BitVec.toNat_ofInt]; omega
theorem i64_and (a b : Int) (h1 : 0 ≤ a) (h2 : a < 65536) (h3 : 0 ≤ b) (h4 : b < 65536) : bits .and .i64 a b = ((a.toNat &&& b.toNat : Nat) : Int) := by
  show IntKind.i64.wrap ((BitVec.ofInt 64 a &&& BitVec.ofInt 64 b).toNat : Nat) = _
  rw [BitVec.toNat_and, ofInt64 a h1 (by omega), ofInt64 b h3 (by omega), IntKind.wrap_i64]
  have := Nat.and_lt_two_pow (x := a.toNat) (y := b.toNat) (n := 16) (by omega)
  omega
theorem i64_or (a b : Int) (h1 : 0 ≤ a) (h2 : a < 65536) (h3 : 0 ≤ b) (h4 : b < 65536) : bits .or .i64 a b = ((a.toNat ||| b.toNat : Nat) : Int) := by
  show IntKind.i64.wrap ((BitVec.ofInt 64 a ||| BitVec.ofInt 64 b).toNat : Nat) = _
  rw [BitVec.toNat_or, ofInt64 a h1 (by omega), ofInt64 b h3 (by omega), IntKind.wrap_i64]
  have := Nat.or_lt_two_pow (x := a.toNat) (y := b.toNat) (n := 16) (by omega) (by omega)
  omega
theorem i64_xor (a b : Int) (h1 : 0 ≤ a) (h2 : a < 65536) (h3 : 0 ≤ b) (h4 : b < 65536) : bits .xor .i64 a b = ((a.toNat ^^^ b.toNat : Nat) : Int) := by
  show IntKind.i64.wrap ((BitVec.ofInt 64 a ^^^ BitVec.ofInt 64 b).toNat : Nat) = _
  rw [BitVec.toNat_xor, ofInt64 a h1 (by omega), ofInt64 b h3 (by omega), IntKind.wrap_i64]
  have := Nat.xor_lt_two_pow (x := a.toNat) (y := b.toNat) (n := 16) (by omega) (by omega)
  omega
end Go.Proofs.YtbkcecilbpngcaaGreat

/-! What the small functions of words answer, both of the program and of the model: each is called at whatever arguments and answers what plain arithmetic says; it only reads. -/
namespace Go.Proofs.YtbkcecilbpngcaaGreat
open Go.ChangeShapes Go.WideShapes Go.ChangeAt Go.RowKit

theorem ret_bool {a b : Bool} (h : a = b) : Ending.returned (.bool a) = Ending.returned (.bool b) := by rw [h]
theorem ret_int {a b : Int} (h : a = b) : Ending.returned (.int .i64 a) = Ending.returned (.int .i64 b) := by rw [h]
theorem dec_and (p q : Prop) [Decidable p] [Decidable q] : (decide p && decide q) = decide (p ∧ q) := by simp
theorem dec_iff {p q : Prop} [Decidable p] [Decidable q] (h : p ↔ q) : decide p = decide q := decide_eq_decide.mpr h

theorem c_l1In (n lo hi : Int) (w : World) :
    Calls Tryz.prog 59 #[.int .i64 n, .int .i64 lo, .int .i64 hi] w fun e w' => e = .returned (.bool (decide (lo ≤ n) && decide (n ≤ hi))) ∧ w' = w := by
  by_cases h1 : lo ≤ n
  · go_enter Tryz.func59, Tryz.ntmps59
    go_wp2
    go_ret
    exact ⟨by simp [h1], rfl⟩
  · go_enter Tryz.func59, Tryz.ntmps59
    go_wp2
    go_ret
    exact ⟨by simp; omega, rfl⟩

theorem c_l1Width (n : Int) (w : World) :
    Calls Tryz.prog 109 #[.int .i64 n] w fun e w' => e = .returned (.bool (decide (1 ≤ n ∧ n ≤ 16))) ∧ w' = w := by
  go_enter Tryz.func109, Tryz.ntmps109
  go_wp2_with (go_at_call 59; refine (c_l1In _ _ _ _).mono ?_; rintro e w' ⟨rfl, rfl⟩)
  go_ret
  exact ⟨ret_bool (dec_and ..), rfl⟩

theorem c_widthOk (n : Int) (w : World) :
    Calls Tryz.prog 142 #[.int .i64 n] w fun e w' => e = .returned (.bool (decide (1 ≤ n ∧ n ≤ 16))) ∧ w' = w := by
  by_cases h1 : 1 ≤ n
  · go_enter Tryz.func142, Tryz.ntmps142
    go_wp2
    go_ret
    exact ⟨by simp [h1], rfl⟩
  · go_enter Tryz.func142, Tryz.ntmps142
    go_wp2
    go_ret
    exact ⟨by simp; omega, rfl⟩

theorem wrap_p2 {n : Int} (h : n ≤ 16) : wrap64 (2 ^ n.toNat) = 2 ^ n.toNat := by
  have := p2_le h; have := p2_pos n.toNat; exact IntWalk.wrap64_in _ (by omega)
theorem wrap_p2m {n : Int} (h : n ≤ 16) : wrap64 (2 ^ n.toNat - 1) = 2 ^ n.toNat - 1 := by
  have := p2_le h; have := p2_pos n.toNat; exact IntWalk.wrap64_in _ (by omega)

theorem c_wordTop (n : Int) (h1 : 1 ≤ n) (h2 : n ≤ 16) (w : World) :
    Calls Tryz.prog 145 #[.int .i64 n] w fun e w' => e = .returned (.int .i64 (2 ^ n.toNat - 1)) ∧ w' = w := by
  go_enter Tryz.func145, Tryz.ntmps145
  go_wp2
  go_ret
  exact ⟨by rw [wrap_p2 h2, wrap_p2m h2]; rfl, rfl⟩

theorem c_WordOkS (n v : Int) (w : World) :
    Calls Tryz.prog 89 #[.int .i64 n, .int .i64 v] w fun e w' => e = .returned (.bool (decide (WOk n v))) ∧ w' = w := by
  by_cases h : 1 ≤ n ∧ n ≤ 16
  · have hw := wrap_p2 h.2
    have hwm := wrap_p2m h.2
    have hd : decide (1 ≤ n ∧ n ≤ 16) = true := decide_eq_true h
    go_enter Tryz.func89, Tryz.ntmps89
    go_wp2_with (first | (go_at_call 59; refine (c_l1In _ _ _ _).mono ?_; rintro e w' ⟨rfl, rfl⟩) | (go_at_call 109; refine (c_l1Width _ _).mono ?_; rintro e w' ⟨rfl, rfl⟩))
    go_ret
    refine ⟨?_, rfl⟩
    refine ret_bool ?_; simp only [dec_and]; apply dec_iff; unfold WOk; omega
  · have hd : decide (1 ≤ n ∧ n ≤ 16) = false := decide_eq_false h
    go_enter Tryz.func89, Tryz.ntmps89
    go_wp2_with (first | (go_at_call 59; refine (c_l1In _ _ _ _).mono ?_; rintro e w' ⟨rfl, rfl⟩) | (go_at_call 109; refine (c_l1Width _ _).mono ?_; rintro e w' ⟨rfl, rfl⟩))
    go_ret
    refine ⟨?_, rfl⟩
    have : ¬ WOk n v := fun k => h ⟨k.1, k.2.1⟩
    simp [this]

theorem c_WordOkI (n v : Int) (w : World) :
    Calls Tryz.prog 118 #[.int .i64 n, .int .i64 v] w fun e w' => e = .returned (.bool (decide (WOk n v))) ∧ w' = w := by
  by_cases h : 1 ≤ n ∧ n ≤ 16
  · have hd : decide (1 ≤ n ∧ n ≤ 16) = true := decide_eq_true h
    by_cases h0 : 0 ≤ v
    · go_enter Tryz.func118, Tryz.ntmps118
      go_wp2_with (first | (go_at_call 142; refine (c_widthOk _ _).mono ?_; rintro e w' ⟨rfl, rfl⟩) | (go_at_call 145; refine (c_wordTop _ h.1 h.2 _).mono ?_; rintro e w' ⟨rfl, rfl⟩))
      go_ret
      refine ⟨?_, rfl⟩
      refine ret_bool ?_; apply dec_iff; unfold WOk; omega
    · go_enter Tryz.func118, Tryz.ntmps118
      go_wp2_with (first | (go_at_call 142; refine (c_widthOk _ _).mono ?_; rintro e w' ⟨rfl, rfl⟩) | (go_at_call 145; refine (c_wordTop _ h.1 h.2 _).mono ?_; rintro e w' ⟨rfl, rfl⟩))
      go_ret
      refine ⟨?_, rfl⟩
      have : ¬ WOk n v := fun k => by have := k.2.2.1; omega
      simp [this]
  · have hd : decide (1 ≤ n ∧ n ≤ 16) = false := decide_eq_false h
    go_enter Tryz.func118, Tryz.ntmps118
    go_wp2_with (first | (go_at_call 142; refine (c_widthOk _ _).mono ?_; rintro e w' ⟨rfl, rfl⟩))
    go_ret
    refine ⟨?_, rfl⟩
    have : ¬ WOk n v := fun k => h ⟨k.1, k.2.1⟩
    simp [this]

theorem c_wordBit (a i : Int) (h1 : 0 ≤ i) (h2 : i ≤ 16) (w : World) :
    Calls Tryz.prog 193 #[.int .i64 a, .int .i64 i] w fun e w' => e = .returned (.int .i64 (a / 2 ^ i.toNat % 2)) ∧ w' = w := by
  go_enter Tryz.func193, Tryz.ntmps193
  go_wp2
  go_ret
  exact ⟨ret_int (i64_one _), rfl⟩
theorem c_l1Bit (a i : Int) (h0 : 0 ≤ a) (h1 : 0 ≤ i) (h2 : i ≤ 16) (w : World) :
    Calls Tryz.prog 157 #[.int .i64 a, .int .i64 i] w fun e w' => e = .returned (.int .i64 (a / 2 ^ i.toNat % 2)) ∧ w' = w := by
  go_enter Tryz.func157, Tryz.ntmps157
  go_wp2
  go_ret
  exact ⟨ret_int (Int.tmod_eq_emod_of_nonneg (Int.ediv_nonneg h0 (Int.le_of_lt (p2_pos _)))), rfl⟩
theorem c_wordSign (n a : Int) (h1 : 1 ≤ n) (h2 : n ≤ 16) (w : World) :
    Calls Tryz.prog 164 #[.int .i64 n, .int .i64 a] w fun e w' => e = .returned (.int .i64 (a / 2 ^ (n.toNat - 1) % 2)) ∧ w' = w := by
  have hw : wrap64 (n - 1) = n - 1 := IntWalk.wrap64_in _ (by omega)
  go_enter Tryz.func164, Tryz.ntmps164
  go_wp2_with (go_at_call 193; refine (c_wordBit _ _ (by omega) (by omega) _).mono ?_; rintro e w' ⟨rfl, rfl⟩)
  go_ret
  exact ⟨rfl, rfl⟩
theorem c_l1Yes (b : Bool) (w : World) :
    Calls Tryz.prog 134 #[.bool b] w fun e w' => e = .returned (.int .i64 b.toNat) ∧ w' = w := by
  cases b <;> (go_enter Tryz.func134, Tryz.ntmps134; go_wp2; go_ret; exact ⟨rfl, rfl⟩)
theorem c_wordFlag (b : Bool) (w : World) :
    Calls Tryz.prog 194 #[.bool b] w fun e w' => e = .returned (.int .i64 b.toNat) ∧ w' = w := by
  cases b <;> (go_enter Tryz.func194, Tryz.ntmps194; go_wp2; go_ret; exact ⟨rfl, rfl⟩)
theorem c_ruleWidth (n : Int) (b : Bool) (w : World) :
    Calls Tryz.prog 161 #[.int .i64 n, .bool b] w fun e w' => e = .returned (.int .i64 (if b then 1 else n)) ∧ w' = w := by
  cases b <;> (go_enter Tryz.func161, Tryz.ntmps161; go_wp2; go_ret; exact ⟨rfl, rfl⟩)

theorem c_WordFromS (n v : Int) (w : World) :
    Calls Tryz.prog 132 #[.int .i64 n, .int .i64 v] w fun e w' => e = .returned (.int .i64 (frm n v)) ∧ w' = w := by
  by_cases h : 1 ≤ n ∧ n ≤ 16
  · have hw := wrap_p2 h.2
    have hd : decide (1 ≤ n ∧ n ≤ 16) = true := decide_eq_true h
    have hp := p2_pos n.toNat
    have hne : ¬ (2 : Int) ^ n.toNat = 0 := by omega
    have hle := p2_le h.2
    have t := tmod_bounds v _ hp
    have hm : Hid (v % 2 ^ n.toNat = _) := emod_of_tmod v _ hp
    by_cases hs : v.tmod (2 ^ n.toNat) < 0
    · have hww : wrap64 (v.tmod (2 ^ n.toNat) + 2 ^ n.toNat) = v.tmod (2 ^ n.toNat) + 2 ^ n.toNat := IntWalk.wrap64_in _ (by omega)
      clear t hle hp
      go_enter Tryz.func132, Tryz.ntmps132
      go_wp2_with (go_at_call 109; refine (c_l1Width _ _).mono ?_; rintro e w' ⟨rfl, rfl⟩)
      go_ret
      refine ⟨ret_int ?_, rfl⟩
      rw [frm_eq _ h.1 h.2, hm.out, if_pos hs, hww]
    · clear t hle hp
      go_enter Tryz.func132, Tryz.ntmps132
      go_wp2_with (go_at_call 109; refine (c_l1Width _ _).mono ?_; rintro e w' ⟨rfl, rfl⟩)
      go_ret
      refine ⟨ret_int ?_, rfl⟩
      rw [frm_eq _ h.1 h.2, hm.out, if_neg (by omega)]
  · have hd : decide (1 ≤ n ∧ n ≤ 16) = false := decide_eq_false h
    go_enter Tryz.func132, Tryz.ntmps132
    go_wp2_with (go_at_call 109; refine (c_l1Width _ _).mono ?_; rintro e w' ⟨rfl, rfl⟩)
    go_ret
    exact ⟨ret_int (by unfold frm; rw [if_neg h]), rfl⟩
theorem c_WordFromI (n v : Int) (w : World) :
    Calls Tryz.prog 158 #[.int .i64 n, .int .i64 v] w fun e w' => e = .returned (.int .i64 (frm n v)) ∧ w' = w := by
  by_cases h : 1 ≤ n ∧ n ≤ 16
  · have hd : decide (1 ≤ n ∧ n ≤ 16) = true := decide_eq_true h
    go_enter Tryz.func158, Tryz.ntmps158
    go_wp2_with (first | (go_at_call 142; refine (c_widthOk _ _).mono ?_; rintro e w' ⟨rfl, rfl⟩) | (go_at_call 145; refine (c_wordTop _ h.1 h.2 _).mono ?_; rintro e w' ⟨rfl, rfl⟩))
    go_ret
    exact ⟨ret_int (by rw [i64_mask _ _ (by omega), frm_eq _ h.1 h.2]), rfl⟩
  · have hd : decide (1 ≤ n ∧ n ≤ 16) = false := decide_eq_false h
    go_enter Tryz.func158, Tryz.ntmps158
    go_wp2_with (first | (go_at_call 142; refine (c_widthOk _ _).mono ?_; rintro e w' ⟨rfl, rfl⟩))
    go_ret
    exact ⟨ret_int (by unfold frm; rw [if_neg h]), rfl⟩


theorem c_WordSignedS (n v : Int) (w : World) :
    Calls Tryz.prog 133 #[.int .i64 n, .int .i64 v] w fun e w' => e = .returned (.int .i64 (sgn n v)) ∧ w' = w := by
  by_cases h : WOk n v
  · have hd : decide (WOk n v) = true := decide_eq_true h
    have hs : Hid (sgn n v = _) := sgn_eq h
    have hb : Hid _ := sgn_bound n v
    obtain ⟨h1, h2, h3, h4⟩ := h
    have hw := wrap_p2 h2
    have hw1 : wrap64 (n - 1) = n - 1 := IntWalk.wrap64_in _ (by omega)
    have hw2 : wrap64 (2 ^ (n.toNat - 1)) = 2 ^ (n.toNat - 1) := by have := wrap_p2 (n := n - 1) (by omega); rwa [show (n - 1).toNat = n.toNat - 1 by omega] at this
    by_cases hc : 2 ^ (n.toNat - 1) ≤ v
    · have hww : wrap64 (v - 2 ^ n.toNat) = v - 2 ^ n.toNat := by
        have := hb.out; have := hs.out; rw [if_pos hc] at this; exact IntWalk.wrap64_in _ (by omega)
      go_enter Tryz.func133, Tryz.ntmps133
      go_wp2_with (go_at_call 89; refine (c_WordOkS _ _ _).mono ?_; rintro e w' ⟨rfl, rfl⟩)
      go_ret
      exact ⟨ret_int (by rw [hs.out, if_pos hc, hww]), rfl⟩
    · go_enter Tryz.func133, Tryz.ntmps133
      go_wp2_with (go_at_call 89; refine (c_WordOkS _ _ _).mono ?_; rintro e w' ⟨rfl, rfl⟩)
      go_ret
      exact ⟨ret_int (by rw [hs.out, if_neg (by omega)]), rfl⟩
  · have hd : decide (WOk n v) = false := decide_eq_false h
    go_enter Tryz.func133, Tryz.ntmps133
    go_wp2_with (go_at_call 89; refine (c_WordOkS _ _ _).mono ?_; rintro e w' ⟨rfl, rfl⟩)
    go_ret
    exact ⟨ret_int (by unfold sgn; rw [if_neg h]), rfl⟩


theorem sign_bit {n v : Int} (h : WOk n v) : (v / 2 ^ (n.toNat - 1) % 2 = 1) ↔ 2 ^ (n.toNat - 1) ≤ v := by
  obtain ⟨h1, _, h3, h4⟩ := h
  have hp := p2_pos (n.toNat - 1)
  rw [p2_half h1] at h4
  have hlt : v / 2 ^ (n.toNat - 1) < 2 := by rw [Int.ediv_lt_iff_lt_mul hp]; omega
  have h0 : 0 ≤ v / 2 ^ (n.toNat - 1) := Int.ediv_nonneg h3 (by omega)
  have : 1 ≤ v / 2 ^ (n.toNat - 1) ↔ 1 * 2 ^ (n.toNat - 1) ≤ v := Int.le_ediv_iff_mul_le hp
  omega

theorem c_WordSignedI (n v : Int) (w : World) :
    Calls Tryz.prog 159 #[.int .i64 n, .int .i64 v] w fun e w' => e = .returned (.int .i64 (sgn n v)) ∧ w' = w := by
  by_cases h : WOk n v
  · have hd : decide (WOk n v) = true := decide_eq_true h
    have hs : Hid (sgn n v = _) := sgn_eq h
    have hb : Hid _ := sgn_bound n v
    have hx : Hid _ := sign_bit h
    obtain ⟨h1, h2, h3, h4⟩ := h
    have hw := wrap_p2 h2
    by_cases hc : 2 ^ (n.toNat - 1) ≤ v
    · have hww : wrap64 (v - 2 ^ n.toNat) = v - 2 ^ n.toNat := by
        have := hb.out; have := hs.out; rw [if_pos hc] at this; exact IntWalk.wrap64_in _ (by omega)
      have hbit : v / 2 ^ (n.toNat - 1) % 2 = 1 := hx.out.mpr hc
      go_enter Tryz.func159, Tryz.ntmps159
      go_wp2_with (first | (go_at_call 118; refine (c_WordOkI _ _ _).mono ?_; rintro e w' ⟨rfl, rfl⟩) | (go_at_call 164; refine (c_wordSign _ _ h1 h2 _).mono ?_; rintro e w' ⟨rfl, rfl⟩))
      go_ret
      exact ⟨ret_int (by rw [hs.out, if_pos hc, hww]), rfl⟩
    · have hbit : (v / 2 ^ (n.toNat - 1) % 2 == 1) = false := by simp; exact fun k => hc (hx.out.mp k)
      go_enter Tryz.func159, Tryz.ntmps159
      go_wp2_with (first | (go_at_call 118; refine (c_WordOkI _ _ _).mono ?_; rintro e w' ⟨rfl, rfl⟩) | (go_at_call 164; refine (c_wordSign _ _ h1 h2 _).mono ?_; rintro e w' ⟨rfl, rfl⟩))
      go_ret
      exact ⟨ret_int (by rw [hs.out, if_neg (by omega)]), rfl⟩
  · have hd : decide (WOk n v) = false := decide_eq_false h
    go_enter Tryz.func159, Tryz.ntmps159
    go_wp2_with (go_at_call 118; refine (c_WordOkI _ _ _).mono ?_; rintro e w' ⟨rfl, rfl⟩)
    go_ret
    exact ⟨ret_int (by unfold sgn; rw [if_neg h]), rfl⟩

end Go.Proofs.YtbkcecilbpngcaaGreat

/-! What the model says of sorts, and the laws' copies of them. -/
namespace Go.Proofs.YtbkcecilbpngcaaGreat
open Go.ChangeShapes Go.WideShapes Go.ChangeAt Go.RowKit
set_option linter.unusedVariables false

/-- A sort. -/
def SOK (i n : Int) : Prop := 0 ≤ i ∧ i ≤ 2 ∧ 1 ≤ n ∧ n ≤ 16
instance (i n : Int) : Decidable (SOK i n) := by unfold SOK; infer_instance
def cellsN (i n : Int) : Int := if SOK i n then 2 ^ i.toNat else 0
def bitsN (i n : Int) : Int := cellsN i n * n
theorem cellsN_bound (i n : Int) : 0 ≤ cellsN i n ∧ cellsN i n ≤ 4 := by
  unfold cellsN; split
  · rename_i h
    have := p2_pos i.toNat
    have := p2_mono (i := i.toNat) (j := 2) (by have := h.1; have := h.2.1; omega)
    have e : (2 : Int) ^ 2 = 4 := by decide
    omega
  · omega

theorem alloc_ltS (w : World) (o : Obj) : w.heap.size < (w.alloc o).heap.size := by show w.heap.size < (w.heap.push _).size; simp
theorem below_boxed {w w1 : World} {o : Obj} (h : Below (w.alloc o).drew.heap.size (w.alloc o).drew w1) : Below w.heap.size w w1 :=
  ((Below.refl _ _).alloc (Nat.le_refl _) _).trans ⟨h.os, h.tape, h.output, h.size, fun k hk => h.block k (Nat.lt_trans hk (alloc_ltS _ _))⟩
theorem heap_alloc2_at (w : World) (A B C : Obj) : (((w.alloc A).alloc B).alloc C).heap[w.heap.size + 1]? = some B := by
  have h : w.heap.size + 1 < ((w.alloc A).alloc B).heap.size := by show w.heap.size + 1 < ((w.heap.push A).push B).size; simp
  exact (heap_alloc_old ((w.alloc A).alloc B) C h).trans (heap_alloc2_new w A B)

theorem c_toSort (i n : Int) (w : World) :
    Calls Tryz.prog 93 #[.agg #[.int .i64 i, .int .i64 n]] w fun e w' => e = .returned (.agg #[.int .i64 i, .int .i64 n]) ∧ Below w.heap.size w w' := by
  go_enter Tryz.func93, Tryz.ntmps93
  go_wp2
  refine bodyPost_ret (v := .agg #[.int .i64 i, .int .i64 n]) (results_cell_row rfl _ _ (w.heap.size + 1) 64 #[.int .i64 i, .int .i64 n] (0, 0) _ rfl ?_ Tryz.underlying64 rfl (by kernel_rfl)) rfl ⟨rfl, ?_⟩
  · exact heap_alloc2_at _ _ _ _
  · exact (((Below.refl _ _).alloc (Nat.le_refl _) _).alloc (by show w.heap.size ≤ (w.heap.push _).size; simp) _).alloc (by show w.heap.size ≤ ((w.heap.push _).push _).size; simp; omega) _

theorem c_SortOkS (i n : Int) (w : World) :
    Calls Tryz.prog 88 #[.agg #[.int .i64 i, .int .i64 n]] w fun e w' => e = .returned (.bool (decide (SOK i n))) ∧ Below w.heap.size w w' := by
  by_cases h1 : 0 ≤ i ∧ i ≤ 2
  · have hd : (decide (0 ≤ i) && decide (i ≤ 2)) = true := by simp; exact h1
    go_enter Tryz.func88, Tryz.ntmps88
    go_wp2_with (first | (go_at_call 59; refine (c_l1In _ _ _ _).mono ?_; rintro e w' ⟨rfl, rfl⟩) | (go_at_call 109; refine (c_l1Width _ _).mono ?_; rintro e w' ⟨rfl, rfl⟩))
    go_ret
    exact ⟨ret_bool (by rw [dec_and]; apply dec_iff; unfold SOK; omega), (Below.refl _ _).alloc (Nat.le_refl _) _⟩
  · have hd : (decide (0 ≤ i) && decide (i ≤ 2)) = false := by simp; omega
    have hn : ¬ SOK i n := fun k => h1 ⟨k.1, k.2.1⟩
    go_enter Tryz.func88, Tryz.ntmps88
    go_wp2_with (first | (go_at_call 59; refine (c_l1In _ _ _ _).mono ?_; rintro e w' ⟨rfl, rfl⟩) | (go_at_call 109; refine (c_l1Width _ _).mono ?_; rintro e w' ⟨rfl, rfl⟩))
    go_ret
    exact ⟨ret_bool (decide_eq_false hn).symm, (Below.refl _ _).alloc (Nat.le_refl _) _⟩

theorem c_SortCellsS (i n : Int) (w : World) :
    Calls Tryz.prog 92 #[.agg #[.int .i64 i, .int .i64 n]] w fun e w' => e = .returned (.int .i64 (cellsN i n)) ∧ Below w.heap.size w w' := by
  by_cases h : SOK i n
  · have hd : decide (SOK i n) = true := decide_eq_true h
    have h1 := h.1; have h2 := h.2.1
    have hc : Hid (cellsN i n = _) := if_pos h
    have hw := wrap_p2 (n := i) (by omega)
    clear h
    go_enter Tryz.func92, Tryz.ntmps92
    go_wp2_with (first | (go_at_call 88; refine (c_SortOkS _ _ _).mono ?_; rintro e w1 ⟨rfl, hB⟩; have c0 := hB.cell (p := ⟨w.heap.size, 0, none⟩) (alloc_ltS _ _)))
    go_ret
    exact ⟨ret_int (hw.trans hc.out.symm), ((Below.refl _ _).alloc (Nat.le_refl _) _).trans (hB.mono (Nat.le_of_lt (alloc_ltS _ _)))⟩
  · have hd : decide (SOK i n) = false := decide_eq_false h
    have hc : Hid (cellsN i n = _) := if_neg h
    clear h
    go_enter Tryz.func92, Tryz.ntmps92
    go_wp2_with (first | (go_at_call 88; refine (c_SortOkS _ _ _).mono ?_; rintro e w1 ⟨rfl, hB⟩))
    go_ret
    exact ⟨ret_int hc.out.symm, ((Below.refl _ _).alloc (Nat.le_refl _) _).trans (hB.mono (Nat.le_of_lt (alloc_ltS _ _)))⟩

theorem c_SortBitsS (i n : Int) (hn : (Lit.int .i64 n).wf = true) (w : World) :
    Calls Tryz.prog 63 #[.agg #[.int .i64 i, .int .i64 n]] w fun e w' => e = .returned (.int .i64 (bitsN i n)) ∧ Below w.heap.size w w' := by
  have hw : wrap64 (cellsN i n * n) = bitsN i n := by
    show wrap64 (cellsN i n * n) = cellsN i n * n
    by_cases h : SOK i n
    · have := cellsN_bound i n
      have h3 := h.2.2.1; have h4 := h.2.2.2
      have : 0 ≤ cellsN i n * n := Int.mul_nonneg (by omega) (by omega)
      have : cellsN i n * n ≤ 4 * 16 := Int.mul_le_mul (by omega) (by omega) (by omega) (by omega)
      exact IntWalk.wrap64_in _ (by omega)
    · have : cellsN i n = 0 := if_neg h
      rw [this, Int.zero_mul]; exact IntWalk.wrap64_in 0 (by omega)
  go_enter Tryz.func63, Tryz.ntmps63
  go_wp2
  go_region_with (first | (go_at_call 92; refine (c_SortCellsS _ _ _).mono ?_; rintro e w1 ⟨rfl, hB⟩; have c1 := hB.cell (p := ⟨w.heap.size, 1, none⟩) (alloc_ltS _ _); have hB' : Below w.heap.size w w1 := below_boxed hB))
  all_goals
    go_wp2
    refine bodyPost_ret (results_tmp rfl _ _ _) rfl ?_
    simp [Act.put]
    exact ⟨by rw [IntKind.wrap_i64]; unfold wrap64 at hw; exact hw, hB'⟩
end Go.Proofs.YtbkcecilbpngcaaGreat

/-! What the program says of sorts; small laws of worlds that have grown. -/
namespace Go.Proofs.YtbkcecilbpngcaaGreat
open Go.ChangeShapes Go.WideShapes Go.ChangeAt Go.RowKit
set_option linter.unusedVariables false

/-- What lay there reads as before. -/
theorem bcell {W w1 : World} (hb : Below W.heap.size W w1) : (∀ b o, b < W.heap.size → w1.cell? ⟨b, o, none⟩ = W.cell? ⟨b, o, none⟩) ∧ (∀ b o, b < W.heap.size → w1.frozen? ⟨b, o, none⟩ = W.frozen? ⟨b, o, none⟩) :=
  ⟨fun b o h => hb.cell (p := ⟨b, o, none⟩) h, fun b o h => hb.frozen (p := ⟨b, o, none⟩) h⟩
theorem bstep {B : Nat} {w w1 w2 : World} (h : Below B w w1) (hB : B ≤ w.heap.size) (k : Below w1.heap.size w1 w2) : Below B w w2 :=
  h.trans (k.mono (Nat.le_trans hB h.size))

theorem c_SortOkI (i n : Int) (w : World) :
    Calls Tryz.prog 115 #[.agg #[.int .i64 i, .int .i64 n]] w fun e w' => e = .returned (.bool (decide (SOK i n))) ∧ Below w.heap.size w w' := by
  by_cases h1 : 0 ≤ i
  · by_cases h2 : i ≤ 2
    · go_enter Tryz.func115, Tryz.ntmps115
      go_wp2_with (first | (go_at_call 142; refine (c_widthOk _ _).mono ?_; rintro e w' ⟨rfl, rfl⟩))
      go_ret
      exact ⟨ret_bool (by rw [dec_and]; apply dec_iff; unfold SOK; omega), (Below.refl _ _).alloc (Nat.le_refl _) _⟩
    · have hn : ¬ SOK i n := fun k => h2 k.2.1
      go_enter Tryz.func115, Tryz.ntmps115
      go_wp2_with (first | (go_at_call 142; refine (c_widthOk _ _).mono ?_; rintro e w' ⟨rfl, rfl⟩))
      go_ret
      exact ⟨by first | rfl | exact ret_bool (decide_eq_false hn).symm, (Below.refl _ _).alloc (Nat.le_refl _) _⟩
  · have hn : ¬ SOK i n := fun k => h1 k.1
    go_enter Tryz.func115, Tryz.ntmps115
    go_wp2_with (first | (go_at_call 142; refine (c_widthOk _ _).mono ?_; rintro e w' ⟨rfl, rfl⟩))
    go_ret
    exact ⟨by first | rfl | exact ret_bool (decide_eq_false hn).symm, (Below.refl _ _).alloc (Nat.le_refl _) _⟩

theorem c_SortCellsI (i n : Int) (w : World) :
    Calls Tryz.prog 100 #[.agg #[.int .i64 i, .int .i64 n]] w fun e w' => e = .returned (.int .i64 (cellsN i n)) ∧ Below w.heap.size w w' := by
  by_cases h : SOK i n
  · have hd : decide (SOK i n) = true := decide_eq_true h
    have h1 := h.1; have h2 := h.2.1
    have hc : Hid (cellsN i n = _) := if_pos h
    have hw := wrap_p2 (n := i) (by omega)
    clear h
    go_enter Tryz.func100, Tryz.ntmps100
    go_wp2_with (first | (go_at_call 115; refine (c_SortOkI _ _ _).mono ?_; rintro e w1 ⟨rfl, hB⟩; have c0 := hB.cell (p := ⟨w.heap.size, 0, none⟩) (alloc_ltS _ _)))
    go_ret
    exact ⟨ret_int (hw.trans hc.out.symm), ((Below.refl _ _).alloc (Nat.le_refl _) _).trans (hB.mono (Nat.le_of_lt (alloc_ltS _ _)))⟩
  · have hd : decide (SOK i n) = false := decide_eq_false h
    have hc : Hid (cellsN i n = _) := if_neg h
    clear h
    go_enter Tryz.func100, Tryz.ntmps100
    go_wp2_with (first | (go_at_call 115; refine (c_SortOkI _ _ _).mono ?_; rintro e w1 ⟨rfl, hB⟩))
    go_ret
    exact ⟨ret_int hc.out.symm, ((Below.refl _ _).alloc (Nat.le_refl _) _).trans (hB.mono (Nat.le_of_lt (alloc_ltS _ _)))⟩

theorem c_SortBitsI (i n : Int) (w : World) :
    Calls Tryz.prog 72 #[.agg #[.int .i64 i, .int .i64 n]] w fun e w' => e = .returned (.int .i64 (bitsN i n)) ∧ Below w.heap.size w w' := by
  have hw : wrap64 (cellsN i n * n) = bitsN i n := by
    show wrap64 (cellsN i n * n) = cellsN i n * n
    by_cases h : SOK i n
    · have := cellsN_bound i n
      have h3 := h.2.2.1; have h4 := h.2.2.2
      have : 0 ≤ cellsN i n * n := Int.mul_nonneg (by omega) (by omega)
      have : cellsN i n * n ≤ 4 * 16 := Int.mul_le_mul (by omega) (by omega) (by omega) (by omega)
      exact IntWalk.wrap64_in _ (by omega)
    · have : cellsN i n = 0 := if_neg h
      rw [this, Int.zero_mul]; exact IntWalk.wrap64_in 0 (by omega)
  go_enter Tryz.func72, Tryz.ntmps72
  go_wp2
  go_region_with (first | (go_at_call 100; refine (c_SortCellsI _ _ _).mono ?_; rintro e w1 ⟨rfl, hB⟩; have c1 := hB.cell (p := ⟨w.heap.size, 1, none⟩) (alloc_ltS _ _); have hB' : Below w.heap.size w w1 := below_boxed hB))
  all_goals
    go_wp2
    refine bodyPost_ret (results_tmp rfl _ _ _) rfl ?_
    simp [Act.put]
    exact ⟨by rw [IntKind.wrap_i64]; unfold wrap64 at hw; exact hw, hB'⟩
end Go.Proofs.YtbkcecilbpngcaaGreat

/-! What a kind has: parts, numbers, a name; names. -/
namespace Go.Proofs.YtbkcecilbpngcaaGreat
open Go.ChangeShapes Go.WideShapes Go.ChangeAt Go.RowKit
set_option linter.unusedVariables false

/-- How many parts a kind has; -1 of none. -/
def pcN (k : Int) : Int := if 34 ≤ k ∧ k ≤ 36 then 0 else if (1 ≤ k ∧ k ≤ 5) ∨ (30 ≤ k ∧ k ≤ 32) then 1 else if (6 ≤ k ∧ k ≤ 29) ∨ k = 37 then 2 else if k = 33 ∨ k = 38 then 3 else -1
/-- How many numbers. -/
def ncN (k : Int) : Int := if k = 30 then 2 else if k = 34 ∨ k = 31 ∨ k = 32 then 1 else 0
def namedB (k : Int) : Bool := decide (k = 35 ∨ k = 36)
theorem pcN_cases (k : Int) : pcN k = -1 ∨ pcN k = 0 ∨ pcN k = 1 ∨ pcN k = 2 ∨ pcN k = 3 := by unfold pcN; (repeat' split) <;> omega

theorem c_l2Parts (k : Int) (w : World) :
    Calls Tryz.prog 85 #[.int .i64 k] w fun e w' => e = .returned (.int .i64 (pcN k)) ∧ w = w' := by
  go_enter Tryz.func85, Tryz.ntmps85
  go_wp2
  all_goals
    go_ret
    exact ⟨ret_int (by (go_light; (try simp only [beq_iff_eq, beq_eq_false_iff_ne, ne_eq] at *); unfold pcN; (repeat' split) <;> omega)), rfl⟩
/-- .. as the program has it: of no kind 0 and false. -/
def pcI (k : Int) : Int := if pcN k < 0 then 0 else pcN k
theorem c_partCount (k : Int) (w : World) :
    Calls Tryz.prog 86 #[.int .i64 k] w fun e w' => e = .returned (.tuple #[.int .i64 (pcI k), .bool (decide (0 ≤ pcN k))]) ∧ w = w' := by
  go_enter Tryz.func86, Tryz.ntmps86
  go_wp2
  all_goals
    go_ret2
    refine ⟨?_, rfl⟩
    go_light
    (try simp only [beq_iff_eq, beq_eq_false_iff_ne, ne_eq] at *)
    have h : pcN k = pcN k := rfl
    conv at h => rhs; unfold pcN
    refine congrArg Ending.returned (congrArg Value.tuple ?_)
    have e1 : pcI k = if pcN k < 0 then 0 else pcN k := rfl
    have : ∀ {a b : Int} {x y : Bool}, a = b → x = y → (#[Value.int .i64 a, Value.bool x] : Array Value) = #[.int .i64 b, .bool y] := by intro a b x y h1 h2; rw [h1, h2]
    refine this ?_ ?_
    · first | rfl | (rw [e1]; (repeat' split at h) <;> (repeat' split) <;> omega)
    · symm; first | rfl | (apply decide_eq_true; (repeat' split at h) <;> omega) | (apply decide_eq_false; (repeat' split at h) <;> omega)
theorem c_numberCount (k : Int) (w : World) :
    Calls Tryz.prog 116 #[.int .i64 k] w fun e w' => e = .returned (.int .i64 (ncN k)) ∧ w = w' := by
  go_enter Tryz.func116, Tryz.ntmps116
  go_wp2
  all_goals
    go_ret
    exact ⟨ret_int (by (go_light; (try simp only [beq_iff_eq, beq_eq_false_iff_ne, ne_eq] at *); unfold ncN; (repeat' split) <;> omega)), rfl⟩
theorem c_kindNamed (k : Int) (w : World) :
    Calls Tryz.prog 99 #[.int .i64 k] w fun e w' => e = .returned (.bool (namedB k)) ∧ w = w' := by
  by_cases h : k = 35
  · have h' : (k == 35) = true := by simpa using h
    go_enter Tryz.func99, Tryz.ntmps99
    go_wp2
    go_ret
    exact ⟨ret_bool (by unfold namedB; first | (simp [h]; done) | (by_cases h2 : k = 36 <;> simp [h, h2])), rfl⟩
  · have h' : (k == 35) = false := by simpa using h
    go_enter Tryz.func99, Tryz.ntmps99
    go_wp2
    go_ret
    exact ⟨ret_bool (by unfold namedB; first | (simp [h]; done) | (by_cases h2 : k = 36 <;> simp [h, h2])), rfl⟩

/-- A small letter, a digit. -/
def lowB (b : Int) : Bool := decide (97 ≤ b ∧ b ≤ 122)
def digB (b : Int) : Bool := decide (48 ≤ b ∧ b ≤ 57)
theorem c_isLetter (b : Int) (w : World) :
    Calls Tryz.prog 144 #[.int .u8 b] w fun e w' => e = .returned (.bool (lowB b)) ∧ w = w' := by
  by_cases h : 97 ≤ b
  · go_enter Tryz.func144, Tryz.ntmps144
    go_wp2
    go_ret
    exact ⟨ret_bool (by unfold lowB; simp [h]), rfl⟩
  · go_enter Tryz.func144, Tryz.ntmps144
    go_wp2
    go_ret
    exact ⟨ret_bool (by unfold lowB; simp; omega), rfl⟩
theorem c_isDigit (b : Int) (w : World) :
    Calls Tryz.prog 143 #[.int .u8 b] w fun e w' => e = .returned (.bool (digB b)) ∧ w = w' := by
  by_cases h : 48 ≤ b
  · go_enter Tryz.func143, Tryz.ntmps143
    go_wp2
    go_ret
    exact ⟨ret_bool (by unfold digB; simp [h]), rfl⟩
  · go_enter Tryz.func143, Tryz.ntmps143
    go_wp2
    go_ret
    exact ⟨ret_bool (by unfold digB; simp; omega), rfl⟩
end Go.Proofs.YtbkcecilbpngcaaGreat

/-! Nodes as data: what a struct of a node, and a slice of such, is in memory; read off an argument's reading. -/
namespace Go.Proofs.YtbkcecilbpngcaaGreat
open Go.ChangeShapes Go.WideShapes Go.ChangeAt Go.RowKit
set_option linter.unusedVariables false
set_option maxRecDepth 100000

/-- A node's fields. -/
structure ND where
  kind : Int
  a : Int
  b : Int
  c : Int
  n : Int
  m : Int
  si : Int
  sw : Int
  name : ByteArray
instance : Inhabited ND := ⟨⟨0, 0, 0, 0, 0, 0, 0, 0, ByteArray.empty⟩⟩
/-- .. as cells, in order. -/
def ND.cells (x : ND) : List Value := [.int .i64 x.kind, .int .i64 x.a, .int .i64 x.b, .int .i64 x.c, .int .i64 x.n, .int .i64 x.m, .int .i64 x.si, .int .i64 x.sw, .string x.name]
/-- Each number fits, and the name is no longer than a string may be. -/
def fits (n : Int) : Prop := (Lit.int .i64 n).wf = true
def ND.ok (x : ND) : Prop := fits x.kind ∧ fits x.a ∧ fits x.b ∧ fits x.c ∧ fits x.n ∧ fits x.m ∧ fits x.si ∧ fits x.sw ∧ x.name.size ≤ maxLen

section
variable {H : Type} {enc : TypeId × Value → H} {w : World} {base : Nat} {spare : Nat → Bool} {held : Bool}
theorem open_node {fuel : Nat} {cs : List Value} {x : DataW H × List MemPlace} (h : DataW.trod enc Tryz.prog w base spare held fuel 74 cs = some x) : ∃ nd : ND, cs = nd.cells ∧ nd.ok := by
  obtain ⟨xs, n, _, rfl, hl, hlen, hf⟩ := DataW.trod_struct Tryz.underlying74 h
  have hc : Tryz.prog.cellsOf 74 = 9 := by kernel_rfl
  rw [hc] at hl
  have k1 : Tryz.prog.cellsOf 3 = 1 := by kernel_rfl
  have k2 : Tryz.prog.cellsOf 72 = 2 := by kernel_rfl
  have k3 : Tryz.prog.cellsOf 9 = 1 := by kernel_rfl
  match cs, hl, xs, hlen with
  | [c0, c1, c2, c3, c4, c5, c6, c7, c8], _, [y0, y1, y2, y3, y4, y5, y6, y7], _ =>
    have f0 := hf 0 _ rfl
    have f1 := hf 1 _ rfl
    have f2 := hf 2 _ rfl
    have f3 := hf 3 _ rfl
    have f4 := hf 4 _ rfl
    have f5 := hf 5 _ rfl
    have f6 := hf 6 _ rfl
    have f7 := hf 7 _ rfl
    simp [k1, k2, k3] at f0 f1 f2 f3 f4 f5 f6 f7
    obtain ⟨v0, e0, _, o0⟩ := DataW.trod_int Tryz.underlying3 f0
    obtain ⟨v1, e1, _, o1⟩ := DataW.trod_int Tryz.underlying3 f1
    obtain ⟨v2, e2, _, o2⟩ := DataW.trod_int Tryz.underlying3 f2
    obtain ⟨v3, e3, _, o3⟩ := DataW.trod_int Tryz.underlying3 f3
    obtain ⟨v4, e4, _, o4⟩ := DataW.trod_int Tryz.underlying3 f4
    obtain ⟨v5, e5, _, o5⟩ := DataW.trod_int Tryz.underlying3 f5
    obtain ⟨z0, z1, n', _, _, g0, g1⟩ := trod_struct2 Tryz.underlying72 f6
    simp [k1] at g0 g1
    obtain ⟨v6, e6, _, o6⟩ := DataW.trod_int Tryz.underlying3 g0
    obtain ⟨v7, e7, _, o7⟩ := DataW.trod_int Tryz.underlying3 g1
    obtain ⟨v8, e8, _, o8⟩ := DataW.trod_string Tryz.underlying9 f7
    simp at e0 e1 e2 e3 e4 e5 e6 e7 e8
    subst e0 e1 e2 e3 e4 e5 e6 e7 e8
    exact ⟨⟨v0, v1, v2, v3, v4, v5, v6, v7, v8⟩, rfl, o0, o1, o2, o3, o4, o5, o6, o7, o8⟩

/-- A slice of nodes lies below B: its cells are those of the nodes, in order. -/
def NodesAt (B : Nat) (w : World) (a : Option Addr) (len cap : Nat) (ns : List ND) : Prop :=
  ns.length = len ∧ len ≤ cap ∧ cap ≤ maxLen ∧ (∀ x ∈ ns, x.ok) ∧ (a = none → cap = 0) ∧
  (len = 0 ∨ ∃ b off, a = some ⟨b, off, none⟩ ∧ b < B ∧ ∀ i (h : i < ns.length) j, j < 9 → w.cell? ⟨b, off + i * 9 + j, none⟩ = (ns[i]).cells[j]?)
theorem open_nodes {v : Value} {d : DataW H} {p : List MemPlace} {b0 : Nat} (hv : Value.okWide Tryz.prog w .any b0 22 v) (h : DataW.Trod enc Tryz.prog w 0 (fun _ => true) true 22 v d p) :
    ∃ a len cap ns, v = .slice a len cap ∧ NodesAt w.heap.size w a len cap ns := by
  obtain ⟨a, len, cap, rfl⟩ := okWide_slice Tryz.underlying22 hv
  obtain ⟨fuel, hf⟩ := h
  rcases Go.Deep.open_slice Tryz.underlying22 hf with ⟨hcs, _⟩ | ⟨x, l, c, m, n, D, Pl, hcs, _, hl, hm, hmm, _, hel⟩
  · simp [Value.cells] at hcs
    obtain ⟨rfl, rfl, rfl⟩ := hcs
    exact ⟨none, 0, 0, [], rfl, rfl, Nat.le_refl _, Nat.zero_le _, by simp, fun _ => rfl, .inl rfl⟩
  · simp [Value.cells] at hcs
    obtain ⟨rfl, rfl, rfl⟩ := hcs
    have hc : Tryz.prog.cellsOf 74 = 9 := by kernel_rfl
    simp only [if_true] at hmm
    rw [hmm, hc] at hel
    obtain ⟨f, hfc⟩ := Go.Deep.choose_lt (n := len) (p := fun i (nd : ND) => nd.ok ∧ ∀ j, j < 9 → w.cell? ((x.add (i * 9)).add j) = nd.cells[j]?) (fun i hi => by
      obtain ⟨cs', h1, h2⟩ := hel i (by omega)
      obtain ⟨nd, rfl, hok⟩ := open_node h2
      exact ⟨nd, hok, (World.cells?_some h1).2.2⟩)
    refine ⟨some x, len, cap, (List.range len).map f, rfl, by simp, hl, hm, ?_, fun e => by simp at e, ?_⟩
    · intro y hy
      simp only [List.mem_map, List.mem_range] at hy
      obtain ⟨i, hi, rfl⟩ := hy
      exact (hfc i hi).1
    · by_cases h0 : len = 0
      · exact .inl h0
      · obtain ⟨b, off, spot⟩ := x
        have hc0 := (hfc 0 (by omega)).2 0 (by omega)
        simp only [Nat.zero_mul] at hc0
        have hs0 : (f 0).cells[0]? = some (.int .i64 (f 0).kind) := rfl
        rw [hs0] at hc0
        have hspot : spot = none := by simpa [Addr.add] using World.cell?_spot hc0
        subst hspot
        have hadd : ∀ k, (⟨b, off, none⟩ : Addr).add k = ⟨b, off + k, none⟩ := fun k => by unfold Addr.add; split <;> simp_all
        refine .inr ⟨b, off, rfl, ?_, ?_⟩
        · exact block_lt_of_cell (by simpa [Addr.add] using hc0)
        · intro i hi j hj
          have hi' : i < len := by simpa using hi
          have := (hfc i hi').2 j hj
          rw [Go.Deep.add_add, hadd, ← Nat.add_assoc] at this
          rw [this]; simp
end
end Go.Proofs.YtbkcecilbpngcaaGreat

/-! A region that draws its order, taken operation by operation: what a guard passes over is taken as it is met. -/
namespace Go.Proofs.YtbkcecilbpngcaaGreat
open Go.RowKit
section
variable {P : Program} {ops : Array Oper} {Q : Exit → Act → World → Prop} {md : Region.Mode} {S : World → Prop}
theorem takeL (i : Nat) (d : Option Tmp) {oi : Oper} {v : Value} {fuel : Nat} {listed : Array Bool} {a : Act} {w : World} (hi : ops[i]? = some oi) (hd : oi.dst = d)
    (hs : Region.noSelect ops = true) (hf : Region.free md ops listed i = true) (hr : (Region.ready md ops listed).contains i = true)
    (hQ : ∀ c a w, Q (.panic c) (a.put d v) w → Q (.panic c) a w) (hw : Region.wanted oi (yielded ops a.tmps) = true)
    (hy : ∀ w, S w → (execOp a.eval oi).run P w = .ok (.value v) w) (hS : S w)
    (h : wpAnyH P md ops Q S fuel (listed.setIfInBounds i true) (a.put d v) w) : wpAnyH P md ops Q S (fuel + 1) listed a w := by
  subst hd
  exact wpAnyH_take hi hs hf hr hQ (Or.inl ⟨hw, hy⟩) hS h
theorem takeU (i : Nat) (d : Option Tmp) {oi : Oper} {fuel : Nat} {listed : Array Bool} {a : Act} {w : World} (hi : ops[i]? = some oi) (hd : oi.dst = d)
    (hs : Region.noSelect ops = true) (hf : Region.free md ops listed i = true) (hr : (Region.ready md ops listed).contains i = true)
    (hQ : ∀ c a w, Q (.panic c) (a.put d undef) w → Q (.panic c) a w) (hw : Region.wanted oi (yielded ops a.tmps) = false) (hS : S w)
    (h : wpAnyH P md ops Q S fuel (listed.setIfInBounds i true) (a.put d undef) w) : wpAnyH P md ops Q S (fuel + 1) listed a w := by
  subst hd
  exact wpAnyH_take hi hs hf hr hQ (Or.inr ⟨hw, rfl⟩) hS h
/-- takeL, takeU with what is always paid alike. -/
theorem tL (i : Nat) (d : Option Tmp) {oi : Oper} {v : Value} {fuel : Nat} {listed : Array Bool} {a a' : Act} {w : World}
    (h : wpAnyH P md ops Q S fuel (listed.setIfInBounds i true) a' w) (hi : ops[i]? = some oi := by rfl) (hd : oi.dst = d := by kernel_rfl)
    (hs : Region.noSelect ops = true := by kernel_rfl) (hf : Region.free md ops listed i = true := by kernel_rfl) (hr : (Region.ready md ops listed).contains i = true := by kernel_rfl)
    (hQ : ∀ c a w, Q (.panic c) (a.put d v) w → Q (.panic c) a w := by exact fun _ _ _ h => h) (hw : Region.wanted oi (yielded ops a.tmps) = true := by rfl)
    (hy : ∀ w, S w → (execOp a.eval oi).run P w = .ok (.value v) w := by (intro w hSw; (try dsimp only at hSw); go_simp <;> (with_reducible rfl))) (hS : S w := by assumption)
    (ha : a.put d v = a' := by ((try simp only [Act.put, List.setIfInBounds_toArray, List.set_cons_zero, List.set_cons_succ]); rfl)) : wpAnyH P md ops Q S (fuel + 1) listed a w := by
  subst ha
  exact takeL i d hi hd hs hf hr hQ hw hy hS h
theorem tU (i : Nat) (d : Option Tmp) {oi : Oper} {fuel : Nat} {listed : Array Bool} {a a' : Act} {w : World}
    (h : wpAnyH P md ops Q S fuel (listed.setIfInBounds i true) a' w) (hi : ops[i]? = some oi := by rfl) (hd : oi.dst = d := by kernel_rfl)
    (hs : Region.noSelect ops = true := by kernel_rfl) (hf : Region.free md ops listed i = true := by kernel_rfl) (hr : (Region.ready md ops listed).contains i = true := by kernel_rfl)
    (hQ : ∀ c a w, Q (.panic c) (a.put d undef) w → Q (.panic c) a w := by exact fun _ _ _ h => h) (hw : Region.wanted oi (yielded ops a.tmps) = false := by rfl) (hS : S w := by assumption)
    (ha : a.put d undef = a' := by ((try simp only [Act.put, List.setIfInBounds_toArray, List.set_cons_zero, List.set_cons_succ]); rfl)) : wpAnyH P md ops Q S (fuel + 1) listed a w := by
  subst ha
  exact takeU i d hi hd hs hf hr hQ hw hS h
end
end Go.Proofs.YtbkcecilbpngcaaGreat
