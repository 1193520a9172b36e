/-
  Parts: PaA, shortened.
-/
import Derived.WalkKit
import Derived.Laws.BitsLemmas
import Derived.Laws.BitsAllLaws
import Derived.Test.YtlcgimadbpagfaaGreatRows
import Derived.ProofKit
import Derived.OpenShut
import Derived.WalkSpells
import Derived.WalkLawsBesides
import Derived.Outline
import Derived.BigQuiet
import Derived.Laws.Rows
import Derived.RegionTactic
import Derived.Deep.RegionWith
import Derived.Handy
import Derived.LoopTactic
import Derived.Deep.Light
import Derived.Deep.Slices
import Derived.Lib.SmallJoins
import Derived.Deep.RegionHeld3
namespace Go.Proofs.YtlcgimadbpagfaaGreat
open Go.Lib
theorem zq1 {α : Type} (l : List α) (i : Nat) (a : α) : l.toArray.setIfInBounds i a = (l.set i a).toArray := by simp
theorem zq2 {α : Type} (x : α) (l : List α) (a : α) : (x :: l).set 0 a = a :: l := rfl
theorem zq3 {α : Type} (x : α) (l : List α) (n : Nat) (a : α) : (x :: l).set (n + 1) a = x :: l.set n a := rfl
open Go.RowKit
theorem p2_pos (k : Nat) : (0 : Int) < 2 ^ k := Int.pow_pos (by decide)
theorem p2_cast (k : Nat) : ((2 ^ k : Nat) : Int) = 2 ^ k := by simp
theorem p2_mono {i j : Nat} (h : i ≤ j) : (2 : Int) ^ i ≤ 2 ^ j := by
 rw [← p2_cast, ← p2_cast]; exact Int.ofNat_le.mpr (Nat.pow_le_pow_right (by decide) h)
theorem p2_le {n : Int} (h : n ≤ 16) : (2 : Int) ^ n.toNat ≤ 65536 := by
 have := p2_mono (i := n.toNat) (j := 16) (by omega); simpa using this
theorem p2_half {n : Int} (h : 1 ≤ n) : (2 : Int) ^ n.toNat = 2 * 2 ^ (n.toNat - 1) := by
 obtain ⟨k, hk⟩ : ∃ k, n.toNat = k + 1 := ⟨n.toNat - 1, by omega⟩
 rw [hk, Int.pow_succ, Nat.add_sub_cancel]; omega
theorem p2_add (i j : Nat) : (2 : Int) ^ (i + j) = 2 ^ i * 2 ^ j := Int.pow_add ..
def WOk (w v : Int) : Prop := 1 ≤ w ∧ w ≤ 16 ∧ 0 ≤ v ∧ v < 2 ^ w.toNat
instance (w v : Int) : Decidable (WOk w v) := by unfold WOk; infer_instance
def sgn (w v : Int) : Int := if WOk w v then (if 2 ^ (w.toNat - 1) ≤ v then v - 2 ^ w.toNat else v) else 0
def frm (w n : Int) : Int := if 1 ≤ w ∧ w ≤ 16 then n % 2 ^ w.toNat else 0
theorem WOk.lt {w v : Int} (h : WOk w v) : v < 65536 := Int.lt_of_lt_of_le h.2.2.2 (p2_le h.2.1)
theorem frm_ok {w : Int} (n : Int) (h1 : 1 ≤ w) (h2 : w ≤ 16) : WOk w (frm w n) := by
 unfold frm; rw [if_pos ⟨h1, h2⟩]
 exact ⟨h1, h2, Int.emod_nonneg _ (by have := p2_pos w.toNat; omega), Int.emod_lt_of_pos _ (p2_pos _)⟩
theorem frm_eq {w : Int} (n : Int) (h1 : 1 ≤ w) (h2 : w ≤ 16) : frm w n = n % 2 ^ w.toNat := by
 unfold frm; rw [if_pos ⟨h1, h2⟩]
theorem sgn_bound (w v : Int) : -65536 < sgn w v ∧ sgn w v < 65536 := by
 unfold sgn
 by_cases h : WOk w v
 ·rw [if_pos h]; have := h.lt; have := p2_le h.2.1; have := p2_half h.1; have := p2_pos (w.toNat - 1)
  have := h.2.2.1
  split <;> omega
 ·rw [if_neg h]; omega
theorem sgn_eq {w v : Int} (h : WOk w v) : sgn w v = if 2 ^ (w.toNat - 1) ≤ v then v - 2 ^ w.toNat else v := by
 unfold sgn; rw [if_pos h]
theorem sgn_range {w v : Int} (h : WOk w v) : -(2 ^ (w.toNat - 1)) ≤ sgn w v ∧ sgn w v < 2 ^ (w.toNat - 1) := by
 rw [sgn_eq h]; have := p2_half h.1; have := h.2.2.1; have := h.2.2.2
 split <;> omega
theorem frm_sgn {w v : Int} (h : WOk w v) : frm w (sgn w v) = v := by
 rw [frm_eq _ h.1 h.2.1, sgn_eq h]
 split
 ·rw [Int.sub_emod_right, Int.emod_eq_of_lt h.2.2.1 h.2.2.2]
 ·rw [Int.emod_eq_of_lt h.2.2.1 h.2.2.2]
theorem emod_of_tmod (v p : Int) (hp : 0 < p) : v % p = if v.tmod p < 0 then v.tmod p + p else v.tmod p := by
 have e := @Int.emod_eq_tmod v p
 have h0 := Int.emod_nonneg v (b := p) (by omega)
 have h1 := Int.emod_lt_of_pos v hp
 have h2 : (p.natAbs : Int) = p := by omega
 by_cases hc : 0 ≤ v ∨ p ∣ v
 ·rw [if_pos hc] at e
  split <;> omega
 ·rw [if_neg hc] at e
  split <;> omega
theorem tmod_bounds (v p : Int) (hp : 0 < p) : -p < v.tmod p ∧ v.tmod p < p := by
 have e := emod_of_tmod v p hp
 have h0 := Int.emod_nonneg v (b := p) (by omega)
 have h1 := Int.emod_lt_of_pos v hp
 have h2 : v % p = 0 → v.tmod p = 0 := fun h => Int.tmod_eq_zero_of_dvd (Int.dvd_of_emod_eq_zero h)
 split at e <;> omega
theorem i64_mask (n : Int) (k : Nat) (hk : k ≤ 62) : bits .and .i64 n (2 ^ k - 1) = n % 2 ^ k := by
 have hle : (2 : Nat) ^ k ≤ 2 ^ 62 := Nat.pow_le_pow_right (by decide) hk
 have hp : 0 < (2 : Nat) ^ k := Nat.pow_pos (by decide)
 have hc := p2_cast k
 have e1 : (BitVec.ofInt 64 (2 ^ k - 1)).toNat = 2 ^ k - 1 := by
  rw [BitVec.toNat_ofInt, ← hc]; omega
 have key : (BitVec.ofInt 64 n &&& BitVec.ofInt 64 (2 ^ k - 1)).toNat = (n % ((2 ^ 64 : Nat) : Int)).toNat % 2 ^ k := by
  rw [BitVec.toNat_and, BitVec.toNat_ofInt, e1, Nat.and_two_pow_sub_one_eq_mod]
 show IntKind.i64.wrap ((BitVec.ofInt 64 n &&& BitVec.ofInt 64 (2 ^ k - 1)).toNat : Nat) = n % 2 ^ k
 rw [key, IntKind.wrap_i64]
 have hlt : (n % ((2 ^ 64 : Nat) : Int)).toNat % 2 ^ k < 2 ^ k := Nat.mod_lt _ hp
 have e2 : (((n % ((2 ^ 64 : Nat) : Int)).toNat % 2 ^ k : Nat) : Int) = n % 2 ^ k := by
  rw [Int.natCast_emod, Int.toNat_of_nonneg (Int.emod_nonneg _ (by decide)), hc]
  have hd : (2 : Int) ^ k ∣ ((2 ^ 64 : Nat) : Int) := by
   have : (2 : Nat) ^ k ∣ 2 ^ 64 := Nat.pow_dvd_pow 2 (by omega)
   rw [← hc]; exact Int.natCast_dvd_natCast.mpr this
  exact Int.emod_emod_of_dvd n hd
 rw [e2]
 have h0 := Int.emod_nonneg n (b := 2 ^ k) (by have := p2_pos k; omega)
 have h1 := Int.emod_lt_of_pos n (p2_pos k)
 have h2 : (2 : Int) ^ k ≤ 4611686018427387904 := by have := p2_mono (i := k) (j := 62) hk; simpa using this
 omega
theorem i64_one (n : Int) : bits .and .i64 n 1 = n % 2 := by
 have := i64_mask n 1 (by decide); simpa using this
theorem ofInt64 (a : Int) (h1 : 0 ≤ a) (h2 : a < 4611686018427387904) : (BitVec.ofInt 64 a).toNat = a.toNat := by
 rw [BitVec.toNat_ofInt]; omega
theorem i64_and (a b : Int) (h1 : 0 ≤ a) (h2 : a < 65536) (h3 : 0 ≤ b) (h4 : b < 65536) : bits .and .i64 a b = ((a.toNat &&& b.toNat : Nat) : Int) := by
 show IntKind.i64.wrap ((BitVec.ofInt 64 a &&& BitVec.ofInt 64 b).toNat : Nat) = _
 rw [BitVec.toNat_and, ofInt64 a h1 (by omega), ofInt64 b h3 (by omega), IntKind.wrap_i64]
 have := Nat.and_lt_two_pow (x := a.toNat) (y := b.toNat) (n := 16) (by omega)
 omega
theorem i64_or (a b : Int) (h1 : 0 ≤ a) (h2 : a < 65536) (h3 : 0 ≤ b) (h4 : b < 65536) : bits .or .i64 a b = ((a.toNat ||| b.toNat : Nat) : Int) := by
 show IntKind.i64.wrap ((BitVec.ofInt 64 a ||| BitVec.ofInt 64 b).toNat : Nat) = _
 rw [BitVec.toNat_or, ofInt64 a h1 (by omega), ofInt64 b h3 (by omega), IntKind.wrap_i64]
 have := Nat.or_lt_two_pow (x := a.toNat) (y := b.toNat) (n := 16) (by omega) (by omega)
 omega
theorem i64_xor (a b : Int) (h1 : 0 ≤ a) (h2 : a < 65536) (h3 : 0 ≤ b) (h4 : b < 65536) : bits .xor .i64 a b = ((a.toNat ^^^ b.toNat : Nat) : Int) := by
 show IntKind.i64.wrap ((BitVec.ofInt 64 a ^^^ BitVec.ofInt 64 b).toNat : Nat) = _
 rw [BitVec.toNat_xor, ofInt64 a h1 (by omega), ofInt64 b h3 (by omega), IntKind.wrap_i64]
 have := Nat.xor_lt_two_pow (x := a.toNat) (y := b.toNat) (n := 16) (by omega) (by omega)
 omega
end Go.Proofs.YtlcgimadbpagfaaGreat
namespace Go.Proofs.YtlcgimadbpagfaaGreat
open Go.Lib
open Go.ChangeShapes Go.WideShapes Go.ChangeAt Go.RowKit
theorem ret_bool {a b : Bool} (h : a = b) : Ending.returned (.bool a) = Ending.returned (.bool b) := by rw [h]
theorem ret_int {a b : Int} (h : a = b) : Ending.returned (.int .i64 a) = Ending.returned (.int .i64 b) := by rw [h]
theorem dec_and (p q : Prop) [Decidable p] [Decidable q] : (decide p && decide q) = decide (p ∧ q) := by simp
theorem dec_iff {p q : Prop} [Decidable p] [Decidable q] (h : p ↔ q) : decide p = decide q := decide_eq_decide.mpr h
theorem c_l1In (n lo hi : Int) (w : World) :
  Calls Tryz.prog 75 #[.int .i64 n, .int .i64 lo, .int .i64 hi] w fun e w' => e = .returned (.bool (decide (lo ≤ n) && decide (n ≤ hi))) ∧ w' = w := by
 by_cases h1 : lo ≤ n
 ·go_enter Tryz.func75, Tryz.ntmps75
  go_wp2
  go_ret
  exact ⟨by simp [h1], rfl⟩
 ·go_enter Tryz.func75, Tryz.ntmps75
  go_wp2
  go_ret
  exact ⟨by simp; omega, rfl⟩
theorem c_l1Width (n : Int) (w : World) :
  Calls Tryz.prog 161 #[.int .i64 n] w fun e w' => e = .returned (.bool (decide (1 ≤ n ∧ n ≤ 16))) ∧ w' = w := by
 go_enter Tryz.func161, Tryz.ntmps161
 go_wp2_with (go_at_call 75; refine (c_l1In _ _ _ _).mono ?_; rintro e w' ⟨rfl, rfl⟩)
 go_ret
 exact ⟨ret_bool (dec_and ..), rfl⟩
theorem c_widthOk (n : Int) (w : World) :
  Calls Tryz.prog 186 #[.int .i64 n] w fun e w' => e = .returned (.bool (decide (1 ≤ n ∧ n ≤ 16))) ∧ w' = w := by
 by_cases h1 : 1 ≤ n
 ·go_enter Tryz.func186, Tryz.ntmps186
  go_wp2
  go_ret
  exact ⟨by simp [h1], rfl⟩
 ·go_enter Tryz.func186, Tryz.ntmps186
  go_wp2
  go_ret
  exact ⟨by simp; omega, rfl⟩
theorem wrap_p2 {n : Int} (h : n ≤ 16) : wrap64 (2 ^ n.toNat) = 2 ^ n.toNat := by
 have := p2_le h; have := p2_pos n.toNat; exact IntWalk.wrap64_in _ (by omega)
theorem wrap_p2m {n : Int} (h : n ≤ 16) : wrap64 (2 ^ n.toNat - 1) = 2 ^ n.toNat - 1 := by
 have := p2_le h; have := p2_pos n.toNat; exact IntWalk.wrap64_in _ (by omega)
theorem c_wordTop (n : Int) (h1 : 1 ≤ n) (h2 : n ≤ 16) (w : World) :
  Calls Tryz.prog 187 #[.int .i64 n] w fun e w' => e = .returned (.int .i64 (2 ^ n.toNat - 1)) ∧ w' = w := by
 go_enter Tryz.func187, Tryz.ntmps187
 go_wp2
 go_ret
 exact ⟨by rw [wrap_p2 h2, wrap_p2m h2]; rfl, rfl⟩
theorem c_WordOkS (n v : Int) (w : World) :
  Calls Tryz.prog 121 #[.int .i64 n, .int .i64 v] w fun e w' => e = .returned (.bool (decide (WOk n v))) ∧ w' = w := by
 by_cases h : 1 ≤ n ∧ n ≤ 16
 ·have hw := wrap_p2 h.2
  have hwm := wrap_p2m h.2
  have hd : decide (1 ≤ n ∧ n ≤ 16) = true := decide_eq_true h
  go_enter Tryz.func121, Tryz.ntmps121
  go_wp2_with (first | (go_at_call 75; refine (c_l1In _ _ _ _).mono ?_; rintro e w' ⟨rfl, rfl⟩) | (go_at_call 161; refine (c_l1Width _ _).mono ?_; rintro e w' ⟨rfl, rfl⟩))
  go_ret
  refine ⟨?_, rfl⟩
  refine ret_bool ?_; simp only [dec_and]; apply dec_iff; unfold WOk; omega
 ·have hd : decide (1 ≤ n ∧ n ≤ 16) = false := decide_eq_false h
  go_enter Tryz.func121, Tryz.ntmps121
  go_wp2_with (first | (go_at_call 75; refine (c_l1In _ _ _ _).mono ?_; rintro e w' ⟨rfl, rfl⟩) | (go_at_call 161; refine (c_l1Width _ _).mono ?_; rintro e w' ⟨rfl, rfl⟩))
  go_ret
  refine ⟨?_, rfl⟩
  have : ¬ WOk n v := fun k => h ⟨k.1, k.2.1⟩
  simp [this]
theorem c_WordOkI (n v : Int) (w : World) :
  Calls Tryz.prog 148 #[.int .i64 n, .int .i64 v] w fun e w' => e = .returned (.bool (decide (WOk n v))) ∧ w' = w := by
 by_cases h : 1 ≤ n ∧ n ≤ 16
 ·have hd : decide (1 ≤ n ∧ n ≤ 16) = true := decide_eq_true h
  by_cases h0 : 0 ≤ v
  ·go_enter Tryz.func148, Tryz.ntmps148
   go_wp2_with (first | (go_at_call 186; refine (c_widthOk _ _).mono ?_; rintro e w' ⟨rfl, rfl⟩) | (go_at_call 187; refine (c_wordTop _ h.1 h.2 _).mono ?_; rintro e w' ⟨rfl, rfl⟩))
   go_ret
   refine ⟨?_, rfl⟩
   refine ret_bool ?_; apply dec_iff; unfold WOk; omega
  ·go_enter Tryz.func148, Tryz.ntmps148
   go_wp2_with (first | (go_at_call 186; refine (c_widthOk _ _).mono ?_; rintro e w' ⟨rfl, rfl⟩) | (go_at_call 187; refine (c_wordTop _ h.1 h.2 _).mono ?_; rintro e w' ⟨rfl, rfl⟩))
   go_ret
   refine ⟨?_, rfl⟩
   have : ¬ WOk n v := fun k => by have := k.2.2.1; omega
   simp [this]
 ·have hd : decide (1 ≤ n ∧ n ≤ 16) = false := decide_eq_false h
  go_enter Tryz.func148, Tryz.ntmps148
  go_wp2_with (first | (go_at_call 186; refine (c_widthOk _ _).mono ?_; rintro e w' ⟨rfl, rfl⟩))
  go_ret
  refine ⟨?_, rfl⟩
  have : ¬ WOk n v := fun k => h ⟨k.1, k.2.1⟩
  simp [this]
theorem c_wordBit (a i : Int) (h1 : 0 ≤ i) (h2 : i ≤ 16) (w : World) :
  Calls Tryz.prog 241 #[.int .i64 a, .int .i64 i] w fun e w' => e = .returned (.int .i64 (a / 2 ^ i.toNat % 2)) ∧ w' = w := by
 go_enter Tryz.func241, Tryz.ntmps241
 go_wp2
 go_ret
 exact ⟨ret_int (i64_one _), rfl⟩
theorem c_l1Bit (a i : Int) (h0 : 0 ≤ a) (h1 : 0 ≤ i) (h2 : i ≤ 16) (w : World) :
  Calls Tryz.prog 193 #[.int .i64 a, .int .i64 i] w fun e w' => e = .returned (.int .i64 (a / 2 ^ i.toNat % 2)) ∧ w' = w := by
 go_enter Tryz.func193, Tryz.ntmps193
 go_wp2
 go_ret
 exact ⟨ret_int (Int.tmod_eq_emod_of_nonneg (Int.ediv_nonneg h0 (Int.le_of_lt (p2_pos _)))), rfl⟩
theorem c_wordSign (n a : Int) (h1 : 1 ≤ n) (h2 : n ≤ 16) (w : World) :
  Calls Tryz.prog 236 #[.int .i64 n, .int .i64 a] w fun e w' => e = .returned (.int .i64 (a / 2 ^ (n.toNat - 1) % 2)) ∧ w' = w := by
 have hw : wrap64 (n - 1) = n - 1 := IntWalk.wrap64_in _ (by omega)
 go_enter Tryz.func236, Tryz.ntmps236
 go_wp2_with (go_at_call 241; refine (c_wordBit _ _ (by omega) (by omega) _).mono ?_; rintro e w' ⟨rfl, rfl⟩)
 go_ret
 exact ⟨rfl, rfl⟩
theorem c_l1Yes (b : Bool) (w : World) :
  Calls Tryz.prog 122 #[.bool b] w fun e w' => e = .returned (.int .i64 b.toNat) ∧ w' = w := by
 cases b <;> (go_enter Tryz.func122, Tryz.ntmps122; go_wp2; go_ret; exact ⟨rfl, rfl⟩)
theorem c_wordFlag (b : Bool) (w : World) :
  Calls Tryz.prog 177 #[.bool b] w fun e w' => e = .returned (.int .i64 b.toNat) ∧ w' = w := by
 cases b <;> (go_enter Tryz.func177, Tryz.ntmps177; go_wp2; go_ret; exact ⟨rfl, rfl⟩)
theorem c_ruleWidth (n : Int) (b : Bool) (w : World) :
  Calls Tryz.prog 195 #[.int .i64 n, .bool b] w fun e w' => e = .returned (.int .i64 (if b then 1 else n)) ∧ w' = w := by
 cases b <;> (go_enter Tryz.func195, Tryz.ntmps195; go_wp2; go_ret; exact ⟨rfl, rfl⟩)
theorem c_WordFromS (n v : Int) (w : World) :
  Calls Tryz.prog 162 #[.int .i64 n, .int .i64 v] w fun e w' => e = .returned (.int .i64 (frm n v)) ∧ w' = w := by
 by_cases h : 1 ≤ n ∧ n ≤ 16
 ·have hw := wrap_p2 h.2
  have hd : decide (1 ≤ n ∧ n ≤ 16) = true := decide_eq_true h
  have hp := p2_pos n.toNat
  have hne : ¬ (2 : Int) ^ n.toNat = 0 := by omega
  have hle := p2_le h.2
  have t := tmod_bounds v _ hp
  have hm : Hid (v % 2 ^ n.toNat = _) := emod_of_tmod v _ hp
  by_cases hs : v.tmod (2 ^ n.toNat) < 0
  ·have hww : wrap64 (v.tmod (2 ^ n.toNat) + 2 ^ n.toNat) = v.tmod (2 ^ n.toNat) + 2 ^ n.toNat := IntWalk.wrap64_in _ (by omega)
   clear t hle hp
   go_enter Tryz.func162, Tryz.ntmps162
   go_wp2_with (go_at_call 161; refine (c_l1Width _ _).mono ?_; rintro e w' ⟨rfl, rfl⟩)
   go_ret
   refine ⟨ret_int ?_, rfl⟩
   rw [frm_eq _ h.1 h.2, hm.out, if_pos hs, hww]
  ·clear t hle hp
   go_enter Tryz.func162, Tryz.ntmps162
   go_wp2_with (go_at_call 161; refine (c_l1Width _ _).mono ?_; rintro e w' ⟨rfl, rfl⟩)
   go_ret
   refine ⟨ret_int ?_, rfl⟩
   rw [frm_eq _ h.1 h.2, hm.out, if_neg (by omega)]
 ·have hd : decide (1 ≤ n ∧ n ≤ 16) = false := decide_eq_false h
  go_enter Tryz.func162, Tryz.ntmps162
  go_wp2_with (go_at_call 161; refine (c_l1Width _ _).mono ?_; rintro e w' ⟨rfl, rfl⟩)
  go_ret
  exact ⟨ret_int (by unfold frm; rw [if_neg h]), rfl⟩
theorem c_WordFromI (n v : Int) (w : World) :
  Calls Tryz.prog 197 #[.int .i64 n, .int .i64 v] w fun e w' => e = .returned (.int .i64 (frm n v)) ∧ w' = w := by
 by_cases h : 1 ≤ n ∧ n ≤ 16
 ·have hd : decide (1 ≤ n ∧ n ≤ 16) = true := decide_eq_true h
  go_enter Tryz.func197, Tryz.ntmps197
  go_wp2_with (first | (go_at_call 186; refine (c_widthOk _ _).mono ?_; rintro e w' ⟨rfl, rfl⟩) | (go_at_call 187; refine (c_wordTop _ h.1 h.2 _).mono ?_; rintro e w' ⟨rfl, rfl⟩))
  go_ret
  exact ⟨ret_int (by rw [i64_mask _ _ (by omega), frm_eq _ h.1 h.2]), rfl⟩
 ·have hd : decide (1 ≤ n ∧ n ≤ 16) = false := decide_eq_false h
  go_enter Tryz.func197, Tryz.ntmps197
  go_wp2_with (first | (go_at_call 186; refine (c_widthOk _ _).mono ?_; rintro e w' ⟨rfl, rfl⟩))
  go_ret
  exact ⟨ret_int (by unfold frm; rw [if_neg h]), rfl⟩
theorem c_WordSignedS (n v : Int) (w : World) :
  Calls Tryz.prog 163 #[.int .i64 n, .int .i64 v] w fun e w' => e = .returned (.int .i64 (sgn n v)) ∧ w' = w := by
 by_cases h : WOk n v
 ·have hd : decide (WOk n v) = true := decide_eq_true h
  have hs : Hid (sgn n v = _) := sgn_eq h
  have hb : Hid _ := sgn_bound n v
  obtain ⟨h1, h2, h3, h4⟩ := h
  have hw := wrap_p2 h2
  have hw1 : wrap64 (n - 1) = n - 1 := IntWalk.wrap64_in _ (by omega)
  have hw2 : wrap64 (2 ^ (n.toNat - 1)) = 2 ^ (n.toNat - 1) := by have := wrap_p2 (n := n - 1) (by omega); rwa [show (n - 1).toNat = n.toNat - 1 by omega] at this
  by_cases hc : 2 ^ (n.toNat - 1) ≤ v
  ·have hww : wrap64 (v - 2 ^ n.toNat) = v - 2 ^ n.toNat := by
    have := hb.out; have := hs.out; rw [if_pos hc] at this; exact IntWalk.wrap64_in _ (by omega)
   go_enter Tryz.func163, Tryz.ntmps163
   go_wp2_with (go_at_call 121; refine (c_WordOkS _ _ _).mono ?_; rintro e w' ⟨rfl, rfl⟩)
   go_ret
   exact ⟨ret_int (by rw [hs.out, if_pos hc, hww]), rfl⟩
  ·go_enter Tryz.func163, Tryz.ntmps163
   go_wp2_with (go_at_call 121; refine (c_WordOkS _ _ _).mono ?_; rintro e w' ⟨rfl, rfl⟩)
   go_ret
   exact ⟨ret_int (by rw [hs.out, if_neg (by omega)]), rfl⟩
 ·have hd : decide (WOk n v) = false := decide_eq_false h
  go_enter Tryz.func163, Tryz.ntmps163
  go_wp2_with (go_at_call 121; refine (c_WordOkS _ _ _).mono ?_; rintro e w' ⟨rfl, rfl⟩)
  go_ret
  exact ⟨ret_int (by unfold sgn; rw [if_neg h]), rfl⟩
theorem sign_bit {n v : Int} (h : WOk n v) : (v / 2 ^ (n.toNat - 1) % 2 = 1) ↔ 2 ^ (n.toNat - 1) ≤ v := by
 obtain ⟨h1, _, h3, h4⟩ := h
 have hp := p2_pos (n.toNat - 1)
 rw [p2_half h1] at h4
 have hlt : v / 2 ^ (n.toNat - 1) < 2 := by rw [Int.ediv_lt_iff_lt_mul hp]; omega
 have h0 : 0 ≤ v / 2 ^ (n.toNat - 1) := Int.ediv_nonneg h3 (by omega)
 have : 1 ≤ v / 2 ^ (n.toNat - 1) ↔ 1 * 2 ^ (n.toNat - 1) ≤ v := Int.le_ediv_iff_mul_le hp
 omega
theorem c_WordSignedI (n v : Int) (w : World) :
  Calls Tryz.prog 198 #[.int .i64 n, .int .i64 v] w fun e w' => e = .returned (.int .i64 (sgn n v)) ∧ w' = w := by
 by_cases h : WOk n v
 ·have hd : decide (WOk n v) = true := decide_eq_true h
  have hs : Hid (sgn n v = _) := sgn_eq h
  have hb : Hid _ := sgn_bound n v
  have hx : Hid _ := sign_bit h
  obtain ⟨h1, h2, h3, h4⟩ := h
  have hw := wrap_p2 h2
  by_cases hc : 2 ^ (n.toNat - 1) ≤ v
  ·have hww : wrap64 (v - 2 ^ n.toNat) = v - 2 ^ n.toNat := by
    have := hb.out; have := hs.out; rw [if_pos hc] at this; exact IntWalk.wrap64_in _ (by omega)
   have hbit : v / 2 ^ (n.toNat - 1) % 2 = 1 := hx.out.mpr hc
   go_enter Tryz.func198, Tryz.ntmps198
   go_wp2_with (first | (go_at_call 148; refine (c_WordOkI _ _ _).mono ?_; rintro e w' ⟨rfl, rfl⟩) | (go_at_call 236; refine (c_wordSign _ _ h1 h2 _).mono ?_; rintro e w' ⟨rfl, rfl⟩))
   go_ret
   exact ⟨ret_int (by rw [hs.out, if_pos hc, hww]), rfl⟩
  ·have hbit : (v / 2 ^ (n.toNat - 1) % 2 == 1) = false := by simp; exact fun k => hc (hx.out.mp k)
   go_enter Tryz.func198, Tryz.ntmps198
   go_wp2_with (first | (go_at_call 148; refine (c_WordOkI _ _ _).mono ?_; rintro e w' ⟨rfl, rfl⟩) | (go_at_call 236; refine (c_wordSign _ _ h1 h2 _).mono ?_; rintro e w' ⟨rfl, rfl⟩))
   go_ret
   exact ⟨ret_int (by rw [hs.out, if_neg (by omega)]), rfl⟩
 ·have hd : decide (WOk n v) = false := decide_eq_false h
  go_enter Tryz.func198, Tryz.ntmps198
  go_wp2_with (go_at_call 148; refine (c_WordOkI _ _ _).mono ?_; rintro e w' ⟨rfl, rfl⟩)
  go_ret
  exact ⟨ret_int (by unfold sgn; rw [if_neg h]), rfl⟩
end Go.Proofs.YtlcgimadbpagfaaGreat
namespace Go.Proofs.YtlcgimadbpagfaaGreat
open Go.Lib
open Go.ChangeShapes Go.WideShapes Go.ChangeAt Go.RowKit
set_option linter.unusedVariables false
def SOK (i n : Int) : Prop := 0 ≤ i ∧ i ≤ 2 ∧ 1 ≤ n ∧ n ≤ 16
instance (i n : Int) : Decidable (SOK i n) := by unfold SOK; infer_instance
def cellsN (i n : Int) : Int := if SOK i n then 2 ^ i.toNat else 0
def bitsN (i n : Int) : Int := cellsN i n * n
theorem cellsN_bound (i n : Int) : 0 ≤ cellsN i n ∧ cellsN i n ≤ 4 := by
 unfold cellsN; split
 ·rename_i h
  have := p2_pos i.toNat
  have := p2_mono (i := i.toNat) (j := 2) (by have := h.1; have := h.2.1; omega)
  have e : (2 : Int) ^ 2 = 4 := by decide
  omega
 ·omega
theorem alloc_ltS (w : World) (o : Obj) : w.heap.size < (w.alloc o).heap.size := by show w.heap.size < (w.heap.push _).size; simp
theorem below_boxed {w w1 : World} {o : Obj} (h : Below (w.alloc o).drew.heap.size (w.alloc o).drew w1) : Below w.heap.size w w1 :=
 ((Below.refl _ _).alloc (Nat.le_refl _) _).trans ⟨h.os, h.tape, h.output, h.size, fun k hk => h.block k (Nat.lt_trans hk (alloc_ltS _ _))⟩
theorem heap_alloc2_at (w : World) (A B C : Obj) : (((w.alloc A).alloc B).alloc C).heap[w.heap.size + 1]? = some B := by
 have h : w.heap.size + 1 < ((w.alloc A).alloc B).heap.size := by show w.heap.size + 1 < ((w.heap.push A).push B).size; simp
 exact (heap_alloc_old ((w.alloc A).alloc B) C h).trans (heap_alloc2_new w A B)
theorem c_SortOkS (i n : Int) (w : World) :
  Calls Tryz.prog 138 #[.agg #[.int .i64 i, .int .i64 n]] w fun e w' => e = .returned (.bool (decide (SOK i n))) ∧ Below w.heap.size w w' := by
 by_cases h1 : 0 ≤ i ∧ i ≤ 2
 ·have hd : (decide (0 ≤ i) && decide (i ≤ 2)) = true := by simp; exact h1
  go_enter Tryz.func138, Tryz.ntmps138
  go_wp2_with (first | (go_at_call 75; refine (c_l1In _ _ _ _).mono ?_; rintro e w' ⟨rfl, rfl⟩) | (go_at_call 161; refine (c_l1Width _ _).mono ?_; rintro e w' ⟨rfl, rfl⟩))
  go_ret
  exact ⟨ret_bool (by rw [dec_and]; apply dec_iff; unfold SOK; omega), (Below.refl _ _).alloc (Nat.le_refl _) _⟩
 ·have hd : (decide (0 ≤ i) && decide (i ≤ 2)) = false := by simp; omega
  have hn : ¬ SOK i n := fun k => h1 ⟨k.1, k.2.1⟩
  go_enter Tryz.func138, Tryz.ntmps138
  go_wp2_with (first | (go_at_call 75; refine (c_l1In _ _ _ _).mono ?_; rintro e w' ⟨rfl, rfl⟩) | (go_at_call 161; refine (c_l1Width _ _).mono ?_; rintro e w' ⟨rfl, rfl⟩))
  go_ret
  exact ⟨ret_bool (decide_eq_false hn).symm, (Below.refl _ _).alloc (Nat.le_refl _) _⟩
theorem c_SortCellsS (i n : Int) (w : World) :
  Calls Tryz.prog 96 #[.agg #[.int .i64 i, .int .i64 n]] w fun e w' => e = .returned (.int .i64 (cellsN i n)) ∧ Below w.heap.size w w' := by
 by_cases h : SOK i n
 ·have hd : decide (SOK i n) = true := decide_eq_true h
  have h1 := h.1; have h2 := h.2.1
  have hc : Hid (cellsN i n = _) := if_pos h
  have hw := wrap_p2 (n := i) (by omega)
  clear h
  go_enter Tryz.func96, Tryz.ntmps96
  go_wp2_with (first | (go_at_call 138; refine (c_SortOkS _ _ _).mono ?_; rintro e w1 ⟨rfl, hB⟩; have c0 := hB.cell (p := ⟨w.heap.size, 0, none⟩) (alloc_ltS _ _)))
  go_ret
  exact ⟨ret_int (hw.trans hc.out.symm), ((Below.refl _ _).alloc (Nat.le_refl _) _).trans (hB.mono (Nat.le_of_lt (alloc_ltS _ _)))⟩
 ·have hd : decide (SOK i n) = false := decide_eq_false h
  have hc : Hid (cellsN i n = _) := if_neg h
  clear h
  go_enter Tryz.func96, Tryz.ntmps96
  go_wp2_with (first | (go_at_call 138; refine (c_SortOkS _ _ _).mono ?_; rintro e w1 ⟨rfl, hB⟩))
  go_ret
  exact ⟨ret_int hc.out.symm, ((Below.refl _ _).alloc (Nat.le_refl _) _).trans (hB.mono (Nat.le_of_lt (alloc_ltS _ _)))⟩
theorem c_SortBitsS (i n : Int) (hn : (Lit.int .i64 n).wf = true) (w : World) :
  Calls Tryz.prog 154 #[.agg #[.int .i64 i, .int .i64 n]] w fun e w' => e = .returned (.int .i64 (bitsN i n)) ∧ Below w.heap.size w w' := by
 have hw : wrap64 (cellsN i n * n) = bitsN i n := by
  show wrap64 (cellsN i n * n) = cellsN i n * n
  by_cases h : SOK i n
  ·have := cellsN_bound i n
   have h3 := h.2.2.1; have h4 := h.2.2.2
   have : 0 ≤ cellsN i n * n := Int.mul_nonneg (by omega) (by omega)
   have : cellsN i n * n ≤ 4 * 16 := Int.mul_le_mul (by omega) (by omega) (by omega) (by omega)
   exact IntWalk.wrap64_in _ (by omega)
  ·have : cellsN i n = 0 := if_neg h
   rw [this, Int.zero_mul]; exact IntWalk.wrap64_in 0 (by omega)
 go_enter Tryz.func154, Tryz.ntmps154
 go_wp2
 go_region_with (first | (go_at_call 96; refine (c_SortCellsS _ _ _).mono ?_; rintro e w1 ⟨rfl, hB⟩; have c1 := hB.cell (p := ⟨w.heap.size, 1, none⟩) (alloc_ltS _ _); have hB' : Below w.heap.size w w1 := below_boxed hB))
 all_goals
  go_wp2
  refine bodyPost_ret (results_tmp rfl _ _ _) rfl ?_
  simp [Act.put]
  exact ⟨by rw [IntKind.wrap_i64]; unfold wrap64 at hw; exact hw, hB'⟩
end Go.Proofs.YtlcgimadbpagfaaGreat
namespace Go.Proofs.YtlcgimadbpagfaaGreat
open Go.Lib
open Go.ChangeShapes Go.WideShapes Go.ChangeAt Go.RowKit
set_option linter.unusedVariables false
theorem bcell {W w1 : World} (hb : Below W.heap.size W w1) : (∀ b o, b < W.heap.size → w1.cell? ⟨b, o, none⟩ = W.cell? ⟨b, o, none⟩) ∧ (∀ b o, b < W.heap.size → w1.frozen? ⟨b, o, none⟩ = W.frozen? ⟨b, o, none⟩) :=
 ⟨fun b o h => hb.cell (p := ⟨b, o, none⟩) h, fun b o h => hb.frozen (p := ⟨b, o, none⟩) h⟩
theorem bstep {B : Nat} {w w1 w2 : World} (h : Below B w w1) (hB : B ≤ w.heap.size) (k : Below w1.heap.size w1 w2) : Below B w w2 :=
 h.trans (k.mono (Nat.le_trans hB h.size))
theorem c_SortOkI (i n : Int) (w : World) :
  Calls Tryz.prog 147 #[.agg #[.int .i64 i, .int .i64 n]] w fun e w' => e = .returned (.bool (decide (SOK i n))) ∧ Below w.heap.size w w' := by
 by_cases h1 : 0 ≤ i
 ·by_cases h2 : i ≤ 2
  ·go_enter Tryz.func147, Tryz.ntmps147
   go_wp2_with (first | (go_at_call 186; refine (c_widthOk _ _).mono ?_; rintro e w' ⟨rfl, rfl⟩))
   go_ret
   exact ⟨ret_bool (by rw [dec_and]; apply dec_iff; unfold SOK; omega), (Below.refl _ _).alloc (Nat.le_refl _) _⟩
  ·have hn : ¬ SOK i n := fun k => h2 k.2.1
   go_enter Tryz.func147, Tryz.ntmps147
   go_wp2_with (first | (go_at_call 186; refine (c_widthOk _ _).mono ?_; rintro e w' ⟨rfl, rfl⟩))
   go_ret
   exact ⟨by first | rfl | exact ret_bool (decide_eq_false hn).symm, (Below.refl _ _).alloc (Nat.le_refl _) _⟩
 ·have hn : ¬ SOK i n := fun k => h1 k.1
  go_enter Tryz.func147, Tryz.ntmps147
  go_wp2_with (first | (go_at_call 186; refine (c_widthOk _ _).mono ?_; rintro e w' ⟨rfl, rfl⟩))
  go_ret
  exact ⟨by first | rfl | exact ret_bool (decide_eq_false hn).symm, (Below.refl _ _).alloc (Nat.le_refl _) _⟩
theorem c_SortCellsI (i n : Int) (w : World) :
  Calls Tryz.prog 101 #[.agg #[.int .i64 i, .int .i64 n]] w fun e w' => e = .returned (.int .i64 (cellsN i n)) ∧ Below w.heap.size w w' := by
 by_cases h : SOK i n
 ·have hd : decide (SOK i n) = true := decide_eq_true h
  have h1 := h.1; have h2 := h.2.1
  have hc : Hid (cellsN i n = _) := if_pos h
  have hw := wrap_p2 (n := i) (by omega)
  clear h
  go_enter Tryz.func101, Tryz.ntmps101
  go_wp2_with (first | (go_at_call 147; refine (c_SortOkI _ _ _).mono ?_; rintro e w1 ⟨rfl, hB⟩; have c0 := hB.cell (p := ⟨w.heap.size, 0, none⟩) (alloc_ltS _ _)))
  go_ret
  exact ⟨ret_int (hw.trans hc.out.symm), ((Below.refl _ _).alloc (Nat.le_refl _) _).trans (hB.mono (Nat.le_of_lt (alloc_ltS _ _)))⟩
 ·have hd : decide (SOK i n) = false := decide_eq_false h
  have hc : Hid (cellsN i n = _) := if_neg h
  clear h
  go_enter Tryz.func101, Tryz.ntmps101
  go_wp2_with (first | (go_at_call 147; refine (c_SortOkI _ _ _).mono ?_; rintro e w1 ⟨rfl, hB⟩))
  go_ret
  exact ⟨ret_int hc.out.symm, ((Below.refl _ _).alloc (Nat.le_refl _) _).trans (hB.mono (Nat.le_of_lt (alloc_ltS _ _)))⟩
theorem c_SortBitsI (i n : Int) (w : World) :
  Calls Tryz.prog 185 #[.agg #[.int .i64 i, .int .i64 n]] w fun e w' => e = .returned (.int .i64 (bitsN i n)) ∧ Below w.heap.size w w' := by
 have hw : wrap64 (cellsN i n * n) = bitsN i n := by
  show wrap64 (cellsN i n * n) = cellsN i n * n
  by_cases h : SOK i n
  ·have := cellsN_bound i n
   have h3 := h.2.2.1; have h4 := h.2.2.2
   have : 0 ≤ cellsN i n * n := Int.mul_nonneg (by omega) (by omega)
   have : cellsN i n * n ≤ 4 * 16 := Int.mul_le_mul (by omega) (by omega) (by omega) (by omega)
   exact IntWalk.wrap64_in _ (by omega)
  ·have : cellsN i n = 0 := if_neg h
   rw [this, Int.zero_mul]; exact IntWalk.wrap64_in 0 (by omega)
 go_enter Tryz.func185, Tryz.ntmps185
 go_wp2
 go_region_with (first | (go_at_call 101; refine (c_SortCellsI _ _ _).mono ?_; rintro e w1 ⟨rfl, hB⟩; have c1 := hB.cell (p := ⟨w.heap.size, 1, none⟩) (alloc_ltS _ _); have hB' : Below w.heap.size w w1 := below_boxed hB))
 all_goals
  go_wp2
  refine bodyPost_ret (results_tmp rfl _ _ _) rfl ?_
  simp [Act.put]
  exact ⟨by rw [IntKind.wrap_i64]; unfold wrap64 at hw; exact hw, hB'⟩
end Go.Proofs.YtlcgimadbpagfaaGreat
namespace Go.Proofs.YtlcgimadbpagfaaGreat
open Go.Lib
open Go.ChangeShapes Go.WideShapes Go.ChangeAt Go.RowKit
set_option linter.unusedVariables false
def pcN (k : Int) : Int := if 34 ≤ k ∧ k ≤ 36 then 0 else if (1 ≤ k ∧ k ≤ 5) ∨ (30 ≤ k ∧ k ≤ 32) then 1 else if (6 ≤ k ∧ k ≤ 29) ∨ k = 37 then 2 else if k = 33 ∨ k = 38 then 3 else -1
def ncN (k : Int) : Int := if k = 30 then 2 else if k = 34 ∨ k = 31 ∨ k = 32 then 1 else 0
def namedB (k : Int) : Bool := decide (k = 35 ∨ k = 36)
theorem pcN_cases (k : Int) : pcN k = -1 ∨ pcN k = 0 ∨ pcN k = 1 ∨ pcN k = 2 ∨ pcN k = 3 := by unfold pcN; (repeat' split) <;> omega
theorem c_l2Parts (k : Int) (w : World) :
  Calls Tryz.prog 126 #[.int .i64 k] w fun e w' => e = .returned (.int .i64 (pcN k)) ∧ w = w' := by
 go_enter Tryz.func126, Tryz.ntmps126
 go_wp2
 all_goals
  go_ret
  exact ⟨ret_int (by (go_light; (try simp only [beq_iff_eq, beq_eq_false_iff_ne, ne_eq] at *); unfold pcN; (repeat' split) <;> omega)), rfl⟩
def pcI (k : Int) : Int := if pcN k < 0 then 0 else pcN k
theorem c_partCount (k : Int) (w : World) :
  Calls Tryz.prog 178 #[.int .i64 k] w fun e w' => e = .returned (.tuple #[.int .i64 (pcI k), .bool (decide (0 ≤ pcN k))]) ∧ w = w' := by
 go_enter Tryz.func178, Tryz.ntmps178
 go_wp2
 all_goals
  go_ret2
  refine ⟨?_, rfl⟩
  go_light
  (try simp only [beq_iff_eq, beq_eq_false_iff_ne, ne_eq] at *)
  have h : pcN k = pcN k := rfl
  conv at h => rhs; unfold pcN
  refine congrArg Ending.returned (congrArg Value.tuple ?_)
  have e1 : pcI k = if pcN k < 0 then 0 else pcN k := rfl
  have : ∀ {a b : Int} {x y : Bool}, a = b → x = y → (#[Value.int .i64 a, Value.bool x] : Array Value) = #[.int .i64 b, .bool y] := by intro a b x y h1 h2; rw [h1, h2]
  refine this ?_ ?_
  ·first | rfl | (rw [e1]; (repeat' split at h) <;> (repeat' split) <;> omega)
  ·symm; first | rfl | (apply decide_eq_true; (repeat' split at h) <;> omega) | (apply decide_eq_false; (repeat' split at h) <;> omega)
theorem c_numberCount (k : Int) (w : World) :
  Calls Tryz.prog 237 #[.int .i64 k] w fun e w' => e = .returned (.int .i64 (ncN k)) ∧ w = w' := by
 go_enter Tryz.func237, Tryz.ntmps237
 go_wp2
 all_goals
  go_ret
  exact ⟨ret_int (by (go_light; (try simp only [beq_iff_eq, beq_eq_false_iff_ne, ne_eq] at *); unfold ncN; (repeat' split) <;> omega)), rfl⟩
theorem c_kindNamed (k : Int) (w : World) :
  Calls Tryz.prog 90 #[.int .i64 k] w fun e w' => e = .returned (.bool (namedB k)) ∧ w = w' := by
 by_cases h : k = 35
 ·have h' : (k == 35) = true := by simpa using h
  go_enter Tryz.func90, Tryz.ntmps90
  go_wp2
  go_ret
  exact ⟨ret_bool (by unfold namedB; first | (simp [h]; done) | (by_cases h2 : k = 36 <;> simp [h, h2])), rfl⟩
 ·have h' : (k == 35) = false := by simpa using h
  go_enter Tryz.func90, Tryz.ntmps90
  go_wp2
  go_ret
  exact ⟨ret_bool (by unfold namedB; first | (simp [h]; done) | (by_cases h2 : k = 36 <;> simp [h, h2])), rfl⟩
def lowB (b : Int) : Bool := decide (97 ≤ b ∧ b ≤ 122)
def digB (b : Int) : Bool := decide (48 ≤ b ∧ b ≤ 57)
theorem c_isLetter (b : Int) (w : World) :
  Calls Tryz.prog 243 #[.int .u8 b] w fun e w' => e = .returned (.bool (lowB b)) ∧ w = w' := by
 by_cases h : 97 ≤ b
 ·go_enter Tryz.func243, Tryz.ntmps243
  go_wp2
  go_ret
  exact ⟨ret_bool (by unfold lowB; simp [h]), rfl⟩
 ·go_enter Tryz.func243, Tryz.ntmps243
  go_wp2
  go_ret
  exact ⟨ret_bool (by unfold lowB; simp; omega), rfl⟩
theorem c_isDigit (b : Int) (w : World) :
  Calls Tryz.prog 242 #[.int .u8 b] w fun e w' => e = .returned (.bool (digB b)) ∧ w = w' := by
 by_cases h : 48 ≤ b
 ·go_enter Tryz.func242, Tryz.ntmps242
  go_wp2
  go_ret
  exact ⟨ret_bool (by unfold digB; simp [h]), rfl⟩
 ·go_enter Tryz.func242, Tryz.ntmps242
  go_wp2
  go_ret
  exact ⟨ret_bool (by unfold digB; simp; omega), rfl⟩
end Go.Proofs.YtlcgimadbpagfaaGreat
namespace Go.Proofs.YtlcgimadbpagfaaGreat
open Go.Lib
open Go.ChangeShapes Go.WideShapes Go.ChangeAt Go.RowKit
set_option linter.unusedVariables false
set_option maxRecDepth 100000
structure ND where
 kind : Int
 a : Int
 b : Int
 c : Int
 n : Int
 m : Int
 si : Int
 sw : Int
 name : ByteArray
instance : Inhabited ND := ⟨⟨0, 0, 0, 0, 0, 0, 0, 0, ByteArray.empty⟩⟩
def ND.cells (x : ND) : List Value := [.int .i64 x.kind, .int .i64 x.a, .int .i64 x.b, .int .i64 x.c, .int .i64 x.n, .int .i64 x.m, .int .i64 x.si, .int .i64 x.sw, .string x.name]
def fits (n : Int) : Prop := (Lit.int .i64 n).wf = true
def ND.ok (x : ND) : Prop := fits x.kind ∧ fits x.a ∧ fits x.b ∧ fits x.c ∧ fits x.n ∧ fits x.m ∧ fits x.si ∧ fits x.sw ∧ x.name.size ≤ maxLen
section
variable {H : Type} {enc : TypeId × Value → H} {w : World} {base : Nat} {spare : Nat → Bool} {held : Bool}
theorem open_node {fuel : Nat} {cs : List Value} {x : DataW H × List MemPlace} (h : DataW.trod enc Tryz.prog w base spare held fuel 106 cs = some x) : ∃ nd : ND, cs = nd.cells ∧ nd.ok := by
 obtain ⟨xs, n, _, rfl, hl, hlen, hf⟩ := DataW.trod_struct Tryz.underlying106 h
 have hc : Tryz.prog.cellsOf 106 = 9 := by kernel_rfl
 rw [hc] at hl
 have k1 : Tryz.prog.cellsOf 3 = 1 := by kernel_rfl
 have k2 : Tryz.prog.cellsOf 104 = 2 := by kernel_rfl
 have k3 : Tryz.prog.cellsOf 9 = 1 := by kernel_rfl
 match cs, hl, xs, hlen with
 | [c0, c1, c2, c3, c4, c5, c6, c7, c8], _, [y0, y1, y2, y3, y4, y5, y6, y7], _ =>
  have f0 := hf 0 _ rfl
  have f1 := hf 1 _ rfl
  have f2 := hf 2 _ rfl
  have f3 := hf 3 _ rfl
  have f4 := hf 4 _ rfl
  have f5 := hf 5 _ rfl
  have f6 := hf 6 _ rfl
  have f7 := hf 7 _ rfl
  simp [k1, k2, k3] at f0 f1 f2 f3 f4 f5 f6 f7
  obtain ⟨v0, e0, _, o0⟩ := DataW.trod_int Tryz.underlying3 f0
  obtain ⟨v1, e1, _, o1⟩ := DataW.trod_int Tryz.underlying3 f1
  obtain ⟨v2, e2, _, o2⟩ := DataW.trod_int Tryz.underlying3 f2
  obtain ⟨v3, e3, _, o3⟩ := DataW.trod_int Tryz.underlying3 f3
  obtain ⟨v4, e4, _, o4⟩ := DataW.trod_int Tryz.underlying3 f4
  obtain ⟨v5, e5, _, o5⟩ := DataW.trod_int Tryz.underlying3 f5
  obtain ⟨z0, z1, n', _, _, g0, g1⟩ := trod_struct2 Tryz.underlying104 f6
  simp [k1] at g0 g1
  obtain ⟨v6, e6, _, o6⟩ := DataW.trod_int Tryz.underlying3 g0
  obtain ⟨v7, e7, _, o7⟩ := DataW.trod_int Tryz.underlying3 g1
  obtain ⟨v8, e8, _, o8⟩ := DataW.trod_string Tryz.underlying9 f7
  simp at e0 e1 e2 e3 e4 e5 e6 e7 e8
  subst e0 e1 e2 e3 e4 e5 e6 e7 e8
  exact ⟨⟨v0, v1, v2, v3, v4, v5, v6, v7, v8⟩, rfl, o0, o1, o2, o3, o4, o5, o6, o7, o8⟩
def NodesAt (B : Nat) (w : World) (a : Option Addr) (len cap : Nat) (ns : List ND) : Prop :=
 ns.length = len ∧ len ≤ cap ∧ cap ≤ maxLen ∧ (∀ x ∈ ns, x.ok) ∧ (a = none → cap = 0) ∧
 (len = 0 ∨ ∃ b off, a = some ⟨b, off, none⟩ ∧ b < B ∧ ∀ i (h : i < ns.length) j, j < 9 → w.cell? ⟨b, off + i * 9 + j, none⟩ = (ns[i]).cells[j]?)
end
end Go.Proofs.YtlcgimadbpagfaaGreat
namespace Go.Proofs.YtlcgimadbpagfaaGreat
open Go.Lib
open Go.RowKit
section
variable {P : Program} {ops : Array Oper} {Q : Exit → Act → World → Prop} {md : Region.Mode} {S : World → Prop}
theorem takeL (i : Nat) (d : Option Tmp) {oi : Oper} {v : Value} {fuel : Nat} {listed : Array Bool} {a : Act} {w : World} (hi : ops[i]? = some oi) (hd : oi.dst = d)
  (hs : Region.noSelect ops = true) (hf : Region.free md ops listed i = true) (hr : (Region.ready md ops listed).contains i = true)
  (hQ : ∀ c a w, Q (.panic c) (a.put d v) w → Q (.panic c) a w) (hw : Region.wanted oi (yielded ops a.tmps) = true)
  (hy : ∀ w, S w → (execOp a.eval oi).run P w = .ok (.value v) w) (hS : S w)
  (h : wpAnyH P md ops Q S fuel (listed.setIfInBounds i true) (a.put d v) w) : wpAnyH P md ops Q S (fuel + 1) listed a w := by
 subst hd
 exact wpAnyH_take hi hs hf hr hQ (Or.inl ⟨hw, hy⟩) hS h
theorem takeU (i : Nat) (d : Option Tmp) {oi : Oper} {fuel : Nat} {listed : Array Bool} {a : Act} {w : World} (hi : ops[i]? = some oi) (hd : oi.dst = d)
  (hs : Region.noSelect ops = true) (hf : Region.free md ops listed i = true) (hr : (Region.ready md ops listed).contains i = true)
  (hQ : ∀ c a w, Q (.panic c) (a.put d undef) w → Q (.panic c) a w) (hw : Region.wanted oi (yielded ops a.tmps) = false) (hS : S w)
  (h : wpAnyH P md ops Q S fuel (listed.setIfInBounds i true) (a.put d undef) w) : wpAnyH P md ops Q S (fuel + 1) listed a w := by
 subst hd
 exact wpAnyH_take hi hs hf hr hQ (Or.inr ⟨hw, rfl⟩) hS h
theorem tL (i : Nat) (d : Option Tmp) {oi : Oper} {v : Value} {fuel : Nat} {listed : Array Bool} {a a' : Act} {w : World}
  (h : wpAnyH P md ops Q S fuel (listed.setIfInBounds i true) a' w) (hi : ops[i]? = some oi := by rfl) (hd : oi.dst = d := by kernel_rfl)
  (hs : Region.noSelect ops = true := by kernel_rfl) (hf : Region.free md ops listed i = true := by kernel_rfl) (hr : (Region.ready md ops listed).contains i = true := by kernel_rfl)
  (hQ : ∀ c a w, Q (.panic c) (a.put d v) w → Q (.panic c) a w := by exact fun _ _ _ h => h) (hw : Region.wanted oi (yielded ops a.tmps) = true := by rfl)
  (hy : ∀ w, S w → (execOp a.eval oi).run P w = .ok (.value v) w := by (intro w hSw; (try dsimp only at hSw); go_simp <;> (with_reducible rfl))) (hS : S w := by assumption)
  (ha : a.put d v = a' := by ((try simp only [Act.put, zq1, zq2, zq3]); rfl)) : wpAnyH P md ops Q S (fuel + 1) listed a w := by
 subst ha
 exact takeL i d hi hd hs hf hr hQ hw hy hS h
theorem tU (i : Nat) (d : Option Tmp) {oi : Oper} {fuel : Nat} {listed : Array Bool} {a a' : Act} {w : World}
  (h : wpAnyH P md ops Q S fuel (listed.setIfInBounds i true) a' w) (hi : ops[i]? = some oi := by rfl) (hd : oi.dst = d := by kernel_rfl)
  (hs : Region.noSelect ops = true := by kernel_rfl) (hf : Region.free md ops listed i = true := by kernel_rfl) (hr : (Region.ready md ops listed).contains i = true := by kernel_rfl)
  (hQ : ∀ c a w, Q (.panic c) (a.put d undef) w → Q (.panic c) a w := by exact fun _ _ _ h => h) (hw : Region.wanted oi (yielded ops a.tmps) = false := by rfl) (hS : S w := by assumption)
  (ha : a.put d undef = a' := by ((try simp only [Act.put, zq1, zq2, zq3]); rfl)) : wpAnyH P md ops Q S (fuel + 1) listed a w := by
 subst ha
 exact takeU i d hi hd hs hf hr hQ hw hS h
end
end Go.Proofs.YtlcgimadbpagfaaGreat
