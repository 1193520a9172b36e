/-
  What the model's functions of two words answer, at words of one width; they only read.
-/
import Derived.Test.YtbkcecilbpngcaaGreatRows
import Derived.Test.YtbkcecilbpngcaaGreatPaA
import Derived.Test.YtbkcecilbpngcaaGreatCut
import Derived.Test.YtbkcecilbpngcaaGreatBits
import Derived.WalkKit
import Derived.ProofKit
import Derived.OpenShut
import Derived.WalkSpells
import Derived.WalkLawsBesides
import Derived.Outline
import Derived.BigQuiet
namespace Go.Proofs.YtbkcecilbpngcaaGreat
open Go.ChangeShapes Go.WideShapes Go.ChangeAt Go.RowKit
set_option linter.unusedVariables false

theorem sum_wrap {n V z : Int} {k : Nat} (hV : WOk n V) (hk : (k : Int) < n) (hz : z = V / 2 ^ k % 2) :
    wrap64 (V % 2 ^ k + wrap64 (z * 2 ^ k)) = V % 2 ^ (k + 1) := by
  have h2 := hV.2.1
  have hp := p2_pos k
  have hle : (2 : Int) ^ k ≤ 65536 := by have := p2_mono (i := k) (j := 16) (by omega); simpa using this
  have hl := mod_lt V k
  have hn := mod_nonneg V k
  have hb : 0 ≤ z * 2 ^ k ∧ z * 2 ^ k ≤ 65536 := by
    rcases (by omega : z = 0 ∨ z = 1) with e | e <;> rw [e] <;> omega
  rw [IntWalk.wrap64_in (z * 2 ^ k) (by omega), IntWalk.wrap64_in _ (by omega), mod_succ', hz]

theorem sum_wrap0 {n V : Int} {k : Nat} (hV : WOk n V) (hk : (k : Int) < n) (hz : V / 2 ^ k % 2 = 0) : wrap64 (V % 2 ^ k) = V % 2 ^ (k + 1) := by
  have h2 := hV.2.1
  have hle : (2 : Int) ^ k ≤ 65536 := by have := p2_mono (i := k) (j := 16) (by omega); simpa using this
  have hl := mod_lt V k
  have hn := mod_nonneg V k
  rw [IntWalk.wrap64_in _ (by omega), mod_succ', hz]; omega
theorem shl_z1 {n a b : Int} {k : Nat} (h1 : 1 ≤ n) (h2 : n ≤ 16) (hB : 0 ≤ b) (hk : (k : Int) < n) (hc : b ≤ k) : a / 2 ^ ((k : Int) - b).toNat % 2 = vShl n a b / 2 ^ k % 2 := by
  unfold vShl; rw [bit_shl _ _ h1 h2 (by omega), if_pos (by omega), show ((k : Int) - b).toNat = k - b.toNat by omega]
theorem shl_z0 {n a b : Int} {k : Nat} (h1 : 1 ≤ n) (h2 : n ≤ 16) (hk : (k : Int) < n) (hc : ¬ b ≤ k) : vShl n a b / 2 ^ k % 2 = 0 := by
  unfold vShl; rw [bit_shl _ _ h1 h2 (by omega), if_neg (by omega)]
theorem shr_z1 {a b : Int} {k : Nat} (hB : 0 ≤ b) : a / 2 ^ ((k : Int) + b).toNat % 2 = vShr a b / 2 ^ k % 2 := by
  unfold vShr; rw [bit_shr, show ((k : Int) + b).toNat = k + b.toNat by omega]
theorem shr_z0 {n a b : Int} {k : Nat} (h : WOk n a) (hB : 0 ≤ b) (hc : n ≤ (k : Int) + b) : vShr a b / 2 ^ k % 2 = 0 := by
  have := h.1
  unfold vShr; rw [bit_shr, bit_high h (by omega)]
theorem sar_z1 {n a b : Int} {k : Nat} (h : WOk n a) (hB : 0 ≤ b) (hk : (k : Int) < n) (hc : (k : Int) + b < n) : a / 2 ^ ((k : Int) + b).toNat % 2 = vSar n a b / 2 ^ k % 2 := by
  unfold vSar; rw [bit_sar h _ _ (by omega), if_pos (by omega), show ((k : Int) + b).toNat = k + b.toNat by omega]
theorem sar_z2 {n a b : Int} {k : Nat} (h : WOk n a) (hB : 0 ≤ b) (hk : (k : Int) < n) (hc : n ≤ (k : Int) + b) : a / 2 ^ (n.toNat - 1) % 2 = vSar n a b / 2 ^ k % 2 := by
  unfold vSar; rw [bit_sar h _ _ (by omega), if_neg (by omega)]
theorem shr_ok {n a b : Int} (ha : WOk n a) (hb : WOk n b) : WOk n (vShr a b) := by
  have h := div_bound ha.2.2.1 ha.lt (b := 2 ^ b.toNat) (Int.le_of_lt (p2_pos _))
  refine ⟨ha.1, ha.2.1, h.1, Int.lt_of_le_of_lt (Int.ediv_le_self _ ha.2.2.1) ha.2.2.2⟩
theorem c_l1Each6 (n a b : Int) (ha : WOk n a) (hb : WOk n b) (w : World) :
    Calls Tryz.prog 137 #[.int .i64 6, .int .i64 n, .int .i64 a, .int .i64 b] w fun e w' => e = .returned (.int .i64 (vAnd a b)) ∧ w' = w := by
  have h1 := ha.1; have h2 := ha.2.1
  have hV : Hid (WOk n (vAnd a b)) := vAnd_ok ha hb
  have hA := ha.2.2.1; have hB := hb.2.2.1
  clear ha hb
  go_enter Tryz.func137, Tryz.ntmps137
  go_wp2
  go_loop [9, 10] (fun t i => ∃ k : Nat, (k : Int) ≤ n ∧ i = .int .i64 k ∧ t = .int .i64 (vAnd a b % 2 ^ k)) (fun _ i => (n - intOf i).toNat)
  case atStart => exact ⟨0, by omega, rfl, by simp [Int.emod_one]⟩
  case round =>
    obtain ⟨k, hk, rfl, rfl⟩ := hrel
    have hx : 0 ≤ a / 2 ^ k % 2 ∧ a / 2 ^ k % 2 < 2 := by omega
    have hy : 0 ≤ b / 2 ^ k % 2 ∧ b / 2 ^ k % 2 < 2 := by omega
    go_wp2_with (go_at_call 157; refine (c_l1Bit _ _ (by omega) (by omega) (by omega) _).mono ?_; rintro e w' ⟨rfl, rfl⟩)
    · have hlt : (k : Int) < n := by assumption
      go_round
      case rel =>
        refine ⟨k + 1, by omega, by go_num, congrArg (Value.int .i64) (sum_wrap hV.out hlt ?_)⟩
        rw [bit_vAnd hA hB]
        generalize a / 2 ^ k % 2 = x at *
        generalize b / 2 ^ k % 2 = y at *
        rcases (by omega : x = 0 ∨ x = 1) with rfl | rfl <;> rcases (by omega : y = 0 ∨ y = 1) with rfl | rfl <;> (unfold wrap64; omega)
      case measure => simp [intOf]; omega
    · have hkn : k = n.toNat := by omega
      subst hkn
      go_ret
      exact ⟨ret_int (mod_small hV.out.2.2.1 hV.out.2.2.2), rfl⟩
theorem c_l1Each7 (n a b : Int) (ha : WOk n a) (hb : WOk n b) (w : World) :
    Calls Tryz.prog 137 #[.int .i64 7, .int .i64 n, .int .i64 a, .int .i64 b] w fun e w' => e = .returned (.int .i64 (vOr a b)) ∧ w' = w := by
  have h1 := ha.1; have h2 := ha.2.1
  have hV : Hid (WOk n (vOr a b)) := vOr_ok ha hb
  have hA := ha.2.2.1; have hB := hb.2.2.1
  clear ha hb
  go_enter Tryz.func137, Tryz.ntmps137
  go_wp2
  go_loop [9, 10] (fun t i => ∃ k : Nat, (k : Int) ≤ n ∧ i = .int .i64 k ∧ t = .int .i64 (vOr a b % 2 ^ k)) (fun _ i => (n - intOf i).toNat)
  case atStart => exact ⟨0, by omega, rfl, by simp [Int.emod_one]⟩
  case round =>
    obtain ⟨k, hk, rfl, rfl⟩ := hrel
    have hx : 0 ≤ a / 2 ^ k % 2 ∧ a / 2 ^ k % 2 < 2 := by omega
    have hy : 0 ≤ b / 2 ^ k % 2 ∧ b / 2 ^ k % 2 < 2 := by omega
    go_wp2_with (go_at_call 157; refine (c_l1Bit _ _ (by omega) (by omega) (by omega) _).mono ?_; rintro e w' ⟨rfl, rfl⟩)
    · have hlt : (k : Int) < n := by assumption
      go_round
      case rel =>
        refine ⟨k + 1, by omega, by go_num, congrArg (Value.int .i64) (sum_wrap hV.out hlt ?_)⟩
        rw [bit_vOr hA hB]
        generalize a / 2 ^ k % 2 = x at *
        generalize b / 2 ^ k % 2 = y at *
        rcases (by omega : x = 0 ∨ x = 1) with rfl | rfl <;> rcases (by omega : y = 0 ∨ y = 1) with rfl | rfl <;> (unfold wrap64; omega)
      case measure => simp [intOf]; omega
    · have hkn : k = n.toNat := by omega
      subst hkn
      go_ret
      exact ⟨ret_int (mod_small hV.out.2.2.1 hV.out.2.2.2), rfl⟩
theorem c_l1Each8 (n a b : Int) (ha : WOk n a) (hb : WOk n b) (w : World) :
    Calls Tryz.prog 137 #[.int .i64 8, .int .i64 n, .int .i64 a, .int .i64 b] w fun e w' => e = .returned (.int .i64 (vXor a b)) ∧ w' = w := by
  have h1 := ha.1; have h2 := ha.2.1
  have hV : Hid (WOk n (vXor a b)) := vXor_ok ha hb
  have hA := ha.2.2.1; have hB := hb.2.2.1
  clear ha hb
  go_enter Tryz.func137, Tryz.ntmps137
  go_wp2
  go_loop [9, 10] (fun t i => ∃ k : Nat, (k : Int) ≤ n ∧ i = .int .i64 k ∧ t = .int .i64 (vXor a b % 2 ^ k)) (fun _ i => (n - intOf i).toNat)
  case atStart => exact ⟨0, by omega, rfl, by simp [Int.emod_one]⟩
  case round =>
    obtain ⟨k, hk, rfl, rfl⟩ := hrel
    have hx : 0 ≤ a / 2 ^ k % 2 ∧ a / 2 ^ k % 2 < 2 := by omega
    have hy : 0 ≤ b / 2 ^ k % 2 ∧ b / 2 ^ k % 2 < 2 := by omega
    go_wp2_with (go_at_call 157; refine (c_l1Bit _ _ (by omega) (by omega) (by omega) _).mono ?_; rintro e w' ⟨rfl, rfl⟩)
    · have hlt : (k : Int) < n := by assumption
      go_round
      case rel =>
        refine ⟨k + 1, by omega, by go_num, congrArg (Value.int .i64) (sum_wrap hV.out hlt ?_)⟩
        rw [bit_vXor hA hB]
        omega
      case measure => simp [intOf]; omega
    · have hkn : k = n.toNat := by omega
      subst hkn
      go_ret
      exact ⟨ret_int (mod_small hV.out.2.2.1 hV.out.2.2.2), rfl⟩
theorem c_l1Shift16 (n a b : Int) (ha : WOk n a) (hb : WOk n b) (w : World) :
    Calls Tryz.prog 140 #[.int .i64 16, .int .i64 n, .int .i64 a, .int .i64 b] w fun e w' => e = .returned (.int .i64 (vShl n a b)) ∧ w' = w := by
  have h1 := ha.1; have h2 := ha.2.1
  have hV : Hid (WOk n (vShl n a b)) := frm_ok _ ha.1 ha.2.1
  have hA := ha.2.2.1; have hB := hb.2.2.1; have hB2 := hb.lt
  have HA : Hid (WOk n a) := ha
  clear ha hb
  go_enter Tryz.func140, Tryz.ntmps140
  go_wp2
  go_loop [9, 10] (fun t i => ∃ k : Nat, (k : Int) ≤ n ∧ i = .int .i64 k ∧ t = .int .i64 ((vShl n a b) % 2 ^ k)) (fun _ i => (n - intOf i).toNat)
  case atStart => exact ⟨0, by omega, rfl, by simp [Int.emod_one]⟩
  case round =>
    obtain ⟨k, hk, rfl, rfl⟩ := hrel
    have hw1 : wrap64 (n - 1) = n - 1 := IntWalk.wrap64_in _ (by omega)
    go_wp2_with (go_at_call 157; refine (c_l1Bit _ _ (by omega) (by omega) (by omega) _).mono ?_; rintro e w' ⟨rfl, rfl⟩)
    · have hlt : (k : Int) < n := by assumption
      go_round
      case rel => exact ⟨k + 1, by omega, by go_num, congrArg (Value.int .i64) (sum_wrap hV.out hlt (shl_z1 h1 h2 hB hlt (by omega)))⟩
      case measure => simp [intOf]; omega
    · have hlt : (k : Int) < n := by assumption
      go_round
      case rel => exact ⟨k + 1, by omega, by go_num, congrArg (Value.int .i64) (sum_wrap0 hV.out hlt (shl_z0 h1 h2 hlt (by omega)))⟩
      case measure => simp [intOf]; omega
    · have hkn : k = n.toNat := by omega
      subst hkn
      go_ret
      exact ⟨ret_int (mod_small hV.out.2.2.1 hV.out.2.2.2), rfl⟩
theorem c_l1Shift17 (n a b : Int) (ha : WOk n a) (hb : WOk n b) (w : World) :
    Calls Tryz.prog 140 #[.int .i64 17, .int .i64 n, .int .i64 a, .int .i64 b] w fun e w' => e = .returned (.int .i64 (vShr a b)) ∧ w' = w := by
  have h1 := ha.1; have h2 := ha.2.1
  have hV : Hid (WOk n (vShr a b)) := shr_ok ha hb
  have hA := ha.2.2.1; have hB := hb.2.2.1; have hB2 := hb.lt
  have HA : Hid (WOk n a) := ha
  clear ha hb
  go_enter Tryz.func140, Tryz.ntmps140
  go_wp2
  go_loop [9, 10] (fun t i => ∃ k : Nat, (k : Int) ≤ n ∧ i = .int .i64 k ∧ t = .int .i64 ((vShr a b) % 2 ^ k)) (fun _ i => (n - intOf i).toNat)
  case atStart => exact ⟨0, by omega, rfl, by simp [Int.emod_one]⟩
  case round =>
    obtain ⟨k, hk, rfl, rfl⟩ := hrel
    have hw1 : wrap64 (n - 1) = n - 1 := IntWalk.wrap64_in _ (by omega)
    go_wp2_with (go_at_call 157; refine (c_l1Bit _ _ (by omega) (by omega) (by omega) _).mono ?_; rintro e w' ⟨rfl, rfl⟩)
    · have hlt : (k : Int) < n := by assumption
      go_round
      case rel => exact ⟨k + 1, by omega, by go_num, congrArg (Value.int .i64) (sum_wrap hV.out hlt (shr_z1 hB))⟩
      case measure => simp [intOf]; omega
    · have hlt : (k : Int) < n := by assumption
      go_round
      case rel => exact ⟨k + 1, by omega, by go_num, congrArg (Value.int .i64) (sum_wrap0 hV.out hlt (shr_z0 HA.out hB (by omega)))⟩
      case measure => simp [intOf]; omega
    · have hkn : k = n.toNat := by omega
      subst hkn
      go_ret
      exact ⟨ret_int (mod_small hV.out.2.2.1 hV.out.2.2.2), rfl⟩
theorem c_l1Shift18 (n a b : Int) (ha : WOk n a) (hb : WOk n b) (w : World) :
    Calls Tryz.prog 140 #[.int .i64 18, .int .i64 n, .int .i64 a, .int .i64 b] w fun e w' => e = .returned (.int .i64 (vSar n a b)) ∧ w' = w := by
  have h1 := ha.1; have h2 := ha.2.1
  have hV : Hid (WOk n (vSar n a b)) := frm_ok _ ha.1 ha.2.1
  have hA := ha.2.2.1; have hB := hb.2.2.1; have hB2 := hb.lt
  have HA : Hid (WOk n a) := ha
  clear ha hb
  go_enter Tryz.func140, Tryz.ntmps140
  go_wp2
  go_loop [9, 10] (fun t i => ∃ k : Nat, (k : Int) ≤ n ∧ i = .int .i64 k ∧ t = .int .i64 ((vSar n a b) % 2 ^ k)) (fun _ i => (n - intOf i).toNat)
  case atStart => exact ⟨0, by omega, rfl, by simp [Int.emod_one]⟩
  case round =>
    obtain ⟨k, hk, rfl, rfl⟩ := hrel
    have hw1 : wrap64 (n - 1) = n - 1 := IntWalk.wrap64_in _ (by omega)
    go_wp2_with (go_at_call 157; refine (c_l1Bit _ _ (by omega) (by omega) (by omega) _).mono ?_; rintro e w' ⟨rfl, rfl⟩)
    · have hlt : (k : Int) < n := by assumption
      go_round
      case rel => exact ⟨k + 1, by omega, by go_num, congrArg (Value.int .i64) (sum_wrap hV.out hlt (sar_z1 HA.out hB hlt (by omega)))⟩
      case measure => simp [intOf]; omega
    · have hlt : (k : Int) < n := by assumption
      go_round
      case rel => exact ⟨k + 1, by omega, by go_num, congrArg (Value.int .i64) (sum_wrap hV.out hlt (sar_z2 HA.out hB hlt (by omega)))⟩
      case measure => simp [intOf]; omega
    · have hkn : k = n.toNat := by omega
      subst hkn
      go_ret
      exact ⟨ret_int (mod_small hV.out.2.2.1 hV.out.2.2.2), rfl⟩
theorem turn_step {n a B : Int} {k : Nat} (h : WOk n a) (hk : (k : Int) < n) :
    wrap64 (turnAt n.toNat (B % n).toNat k a + wrap64 (a / 2 ^ k % 2 * 2 ^ (((k : Int) + B) % n).toNat)) = turnAt n.toNat (B % n).toNat (k + 1) a := by
  have h1 := h.1
  have h2 := h.2.1
  have hr : (B % n).toNat < n.toNat := by
    have := Int.emod_nonneg B (b := n) (by omega); have := Int.emod_lt_of_pos B (b := n) (by omega); omega
  have hp : (((k : Int) + B) % n).toNat < 16 := by
    have := Int.emod_lt_of_pos ((k : Int) + B) (b := n) (by omega); have := Int.emod_nonneg ((k : Int) + B) (b := n) (by omega); omega
  have hle : (2 : Int) ^ (((k : Int) + B) % n).toNat ≤ 65536 := by
    have := p2_mono (i := (((k : Int) + B) % n).toNat) (j := 16) (by omega); simpa using this
  have hpp := p2_pos (((k : Int) + B) % n).toNat
  have hb : 0 ≤ a / 2 ^ k % 2 * 2 ^ (((k : Int) + B) % n).toNat ∧ a / 2 ^ k % 2 * 2 ^ (((k : Int) + B) % n).toNat ≤ 65536 := by
    rcases (by omega : a / 2 ^ k % 2 = 0 ∨ a / 2 ^ k % 2 = 1) with e | e <;> rw [e] <;> omega
  have hlt := turnAt_lt hr (k := k) (by omega) a
  have hn0 := turnAt_nonneg n.toNat (B % n).toNat k a
  have hn16 := p2_le h2
  rw [IntWalk.wrap64_in (a / 2 ^ k % 2 * 2 ^ (((k : Int) + B) % n).toNat) (by omega), IntWalk.wrap64_in _ (by omega), turnAt_succ hr, ← spot_eq h1 hk]

theorem c_l1Turn19 (n a b : Int) (ha : WOk n a) (hb : WOk n b) (w : World) :
    Calls Tryz.prog 141 #[.int .i64 19, .int .i64 n, .int .i64 a, .int .i64 b] w fun e w' => e = .returned (.int .i64 (vRol n a b)) ∧ ∃ m, w' = w.drewN m := by
  have h1 := ha.1; have h2 := ha.2.1
  have hA0 := ha.2.2.1; have hB := hb.2.2.1
  have hne : ¬ n = 0 := by omega
  have htb : b.tmod n = b % n := Int.tmod_eq_emod_of_nonneg hB
  have hm1 := Int.emod_nonneg b (b := n) (by omega)
  have hm2 := Int.emod_lt_of_pos b (b := n) (by omega)
  have hr0 : ((b) % n).toNat < n.toNat := by
    have := Int.emod_nonneg (b) (b := n) (by omega); have := Int.emod_lt_of_pos (b) (b := n) (by omega); omega
  have hA : Hid (WOk n a) := ha
  have hr : Hid (((b) % n).toNat < n.toNat) := hr0
  clear ha hb hr0
  go_enter Tryz.func141, Tryz.ntmps141
  go_wp2
  go_loopw [9, 10] (fun t i wr => ∃ k : Nat, (k : Int) ≤ n ∧ i = .int .i64 k ∧ t = .int .i64 (turnAt n.toNat ((b) % n).toNat k a) ∧ ∃ m, wr = w.drewN m) (fun _ i _ => (n - intOf i).toNat)
  case atStart => exact ⟨0, by omega, rfl, by rw [turnAt_zero], 0, rfl⟩
  case round =>
    obtain ⟨k, hk, rfl, rfl, m, hm⟩ := hrel
    have hM : Hid (wr = w.drewN m) := hm
    clear hm
    by_cases hlt : (k : Int) < n
    · have hw1 : wrap64 ((k : Int) + b % n) = k + b % n := IntWalk.wrap64_in _ (by omega)
      have ht : ((k : Int) + b % n).tmod n = (k + b) % n := by rw [Int.tmod_eq_emod_of_nonneg (by omega), Int.add_emod_emod]
      have hq1 := Int.emod_nonneg ((k : Int) + b) (b := n) (by omega)
      have hq2 := Int.emod_lt_of_pos ((k : Int) + b) (b := n) (by omega)
      go_wp2
      go_quiet (first | (go_at_call 157; exact Calls.quiet_of_same (c_l1Bit _ _ hA0 (by omega) (by omega) _)))
      go_wp2
      go_roundw
      case rel =>
        refine ⟨k + 1, by omega, by go_num, ?_, m + nq, by rw [hM.out, World.drewN_drewN]⟩
        refine congrArg (Value.int .i64) ?_
        exact turn_step (B := b) hA.out hlt
      case measure => simp [intOf]; omega
    · have hkn : k = n.toNat := by omega
      subst hkn
      go_wp2
      go_ret
      exact ⟨ret_int ((turnAt_all hr.out hA.out.2.2.1 hA.out.2.2.2).trans rfl), m, hM.out⟩
theorem c_l1Turn20 (n a b : Int) (ha : WOk n a) (hb : WOk n b) (w : World) :
    Calls Tryz.prog 141 #[.int .i64 20, .int .i64 n, .int .i64 a, .int .i64 b] w fun e w' => e = .returned (.int .i64 (vRor n a b)) ∧ ∃ m, w' = w.drewN m := by
  have h1 := ha.1; have h2 := ha.2.1
  have hA0 := ha.2.2.1; have hB := hb.2.2.1
  have hne : ¬ n = 0 := by omega
  have htb : b.tmod n = b % n := Int.tmod_eq_emod_of_nonneg hB
  have hm1 := Int.emod_nonneg b (b := n) (by omega)
  have hm2 := Int.emod_lt_of_pos b (b := n) (by omega)
  have hr0 : ((n - b % n) % n).toNat < n.toNat := by
    have := Int.emod_nonneg (n - b % n) (b := n) (by omega); have := Int.emod_lt_of_pos (n - b % n) (b := n) (by omega); omega
  have hA : Hid (WOk n a) := ha
  have hr : Hid (((n - b % n) % n).toNat < n.toNat) := hr0
  obtain ⟨R, hR⟩ : ∃ R, Hid (R = ((n - b % n) % n).toNat) := ⟨_, rfl⟩
  clear ha hb hr0
  go_enter Tryz.func141, Tryz.ntmps141
  go_wp2
  go_loopw [9, 10] (fun t i wr => ∃ k : Nat, (k : Int) ≤ n ∧ i = .int .i64 k ∧ t = .int .i64 (turnAt n.toNat R k a) ∧ ∃ m, wr = w.drewN m) (fun _ i _ => (n - intOf i).toNat)
  case atStart => exact ⟨0, by omega, rfl, by rw [turnAt_zero], 0, rfl⟩
  case round =>
    obtain ⟨k, hk, rfl, rfl, m, hm⟩ := hrel
    have hM : Hid (wr = w.drewN m) := hm
    clear hm
    by_cases hlt : (k : Int) < n
    · have hw1 : wrap64 ((k : Int) + n) = k + n := IntWalk.wrap64_in _ (by omega)
      have hw2 : wrap64 ((k : Int) + n - b % n) = k + n - b % n := IntWalk.wrap64_in _ (by omega)
      have hw3 : wrap64 ((k : Int) + b % n) = k + b % n := IntWalk.wrap64_in _ (by omega)
      have ht : ((k : Int) + n - b % n).tmod n = (k + (n - b % n)) % n := by rw [Int.tmod_eq_emod_of_nonneg (by omega), Int.add_sub_assoc]
      have hq1 := Int.emod_nonneg ((k : Int) + (n - b % n)) (b := n) (by omega)
      have hq2 := Int.emod_lt_of_pos ((k : Int) + (n - b % n)) (b := n) (by omega)
      go_wp2
      go_quiet (first | (go_at_call 157; exact Calls.quiet_of_same (c_l1Bit _ _ hA0 (by omega) (by omega) _)))
      go_wp2
      go_roundw
      case rel =>
        refine ⟨k + 1, by omega, by go_num, ?_, m + nq, by rw [hM.out, World.drewN_drewN]⟩
        refine congrArg (Value.int .i64) ?_
        rw [hR.out]
        exact turn_step (B := n - b % n) hA.out hlt
      case measure => simp [intOf]; omega
    · have hkn : k = n.toNat := by omega
      subst hkn
      go_wp2
      go_ret
      exact ⟨ret_int (by rw [hR.out]; exact turnAt_all hr.out hA.out.2.2.1 hA.out.2.2.2), m, hM.out⟩
theorem c_l1Div12 (n a b : Int) (ha : WOk n a) (hb : WOk n b) (w : World) :
    Calls Tryz.prog 138 #[.int .i64 12, .int .i64 n, .int .i64 a, .int .i64 b] w fun e w' => e = .returned (.int .i64 (vDiv n a b)) ∧ w' = w := by
  by_cases h0 : b = 0
  · subst h0
    have hw1 := wrap_p2 ha.2.1
    have hw2 := wrap_p2m ha.2.1
    have h1 := ha.1; have h2 := ha.2.1
    clear ha hb
    go_enter Tryz.func138, Tryz.ntmps138
    go_wp2
    go_ret
    exact ⟨ret_int (by unfold vDiv; rw [if_pos rfl, hw2]), rfl⟩
  · have hB : Hid _ := div_bound ha.2.2.1 ha.lt hb.2.2.1
    have h1 := ha.2.2.1
    have e : a.tdiv b = a / b := Int.tdiv_eq_ediv_of_nonneg h1
    have hw : wrap64 (a / b) = a / b := by have := hB.out; exact IntWalk.wrap64_in _ (by omega)
    clear ha hb
    go_enter Tryz.func138, Tryz.ntmps138
    go_wp2
    go_ret
    exact ⟨ret_int (by unfold vDiv; rw [if_neg h0]; exact hw), rfl⟩
theorem c_l1Div13 (n a b : Int) (ha : WOk n a) (hb : WOk n b) (w : World) :
    Calls Tryz.prog 138 #[.int .i64 13, .int .i64 n, .int .i64 a, .int .i64 b] w fun e w' => e = .returned (.int .i64 (vRem a b)) ∧ w' = w := by
  by_cases h0 : b = 0
  · subst h0
    clear ha hb
    go_enter Tryz.func138, Tryz.ntmps138
    go_wp2
    go_ret
    exact ⟨ret_int (if_pos rfl).symm, rfl⟩
  · have h1 := ha.2.2.1
    have e : a.tmod b = a % b := Int.tmod_eq_emod_of_nonneg h1
    clear ha hb
    go_enter Tryz.func138, Tryz.ntmps138
    go_wp2
    go_ret
    exact ⟨ret_int (by unfold vRem; rw [if_neg h0]), rfl⟩
theorem c_l1Sdiv14 (n a b : Int) (ha : WOk n a) (hb : WOk n b) (w : World) :
    Calls Tryz.prog 139 #[.int .i64 14, .int .i64 n, .int .i64 a, .int .i64 b] w fun e w' => e = .returned (.int .i64 (vSdiv n a b)) ∧ w' = w := by
  have h1 := ha.1; have h2 := ha.2.1
  have hw1 := wrap_p2 ha.2.1
  have hw2 := wrap_p2m ha.2.1
  by_cases h0 : b = 0
  · subst h0
    have hz : sgn n 0 = 0 := sgn_zero
    clear ha hb
    by_cases hs : sgn n a < 0
    · go_enter Tryz.func139, Tryz.ntmps139
      go_wp2_with (first | (go_at_call 133; refine (c_WordSignedS _ _ _).mono ?_; rintro e w' ⟨rfl, rfl⟩))
      go_ret
      exact ⟨ret_int (by unfold vSdiv; rw [if_pos rfl, if_pos hs]), rfl⟩
    · go_enter Tryz.func139, Tryz.ntmps139
      go_wp2_with (first | (go_at_call 133; refine (c_WordSignedS _ _ _).mono ?_; rintro e w' ⟨rfl, rfl⟩))
      go_ret
      exact ⟨ret_int (by unfold vSdiv; rw [if_pos rfl, if_neg (by omega), hw2]), rfl⟩
  · have hne : ¬ sgn n b = 0 := sgn_ne_zero hb h0
    have hne' : (sgn n b == 0) = false := by simp; exact hne
    clear ha hb
    go_enter Tryz.func139, Tryz.ntmps139
    go_wp2_with (first | (go_at_call 133; refine (c_WordSignedS _ _ _).mono ?_; rintro e w' ⟨rfl, rfl⟩) | (go_at_call 132; refine (c_WordFromS _ _ _).mono ?_; rintro e w' ⟨rfl, rfl⟩))
    go_ret
    exact ⟨ret_int (by unfold vSdiv; rw [if_neg h0]; first | exact frm_wrap _ _ | rfl), rfl⟩
theorem c_l1Sdiv15 (n a b : Int) (ha : WOk n a) (hb : WOk n b) (w : World) :
    Calls Tryz.prog 139 #[.int .i64 15, .int .i64 n, .int .i64 a, .int .i64 b] w fun e w' => e = .returned (.int .i64 (vSrem n a b)) ∧ w' = w := by
  by_cases h0 : b = 0
  · subst h0
    have hz : sgn n 0 = 0 := sgn_zero
    clear ha hb
    go_enter Tryz.func139, Tryz.ntmps139
    go_wp2_with (first | (go_at_call 133; refine (c_WordSignedS _ _ _).mono ?_; rintro e w' ⟨rfl, rfl⟩))
    go_ret
    exact ⟨ret_int (by unfold vSrem; rw [if_pos rfl]), rfl⟩
  · have hne : ¬ sgn n b = 0 := sgn_ne_zero hb h0
    have hne' : (sgn n b == 0) = false := by simp; exact hne
    clear ha hb
    go_enter Tryz.func139, Tryz.ntmps139
    go_wp2_with (first | (go_at_call 133; refine (c_WordSignedS _ _ _).mono ?_; rintro e w' ⟨rfl, rfl⟩) | (go_at_call 132; refine (c_WordFromS _ _ _).mono ?_; rintro e w' ⟨rfl, rfl⟩))
    go_ret
    exact ⟨ret_int (by unfold vSrem; rw [if_neg h0]), rfl⟩
theorem ret2b {a a' b b' : Bool} (h1 : a = a') (h2 : b = b') : Ending.returned (.tuple #[.bool a, .bool b]) = Ending.returned (.tuple #[.bool a', .bool b']) := by rw [h1, h2]
theorem not_ok_iff {n x : Int} (h1 : 1 ≤ n) (h2 : n ≤ 16) (hx : 0 ≤ x) : ¬ WOk n x ↔ 2 ^ n.toNat ≤ x := by
  unfold WOk; omega
theorem c_l1Says21 (n a b : Int) (ha : WOk n a) (hb : WOk n b) (w : World) :
    Calls Tryz.prog 136 #[.int .i64 21, .int .i64 n, .int .i64 a, .int .i64 b] w fun e w' => e = .returned (.tuple #[.bool (decide (a = b)), .bool true]) ∧ w' = w := by
  clear ha hb
  go_enter Tryz.func136, Tryz.ntmps136
  go_wp2_with (first | (go_at_call 133; refine (c_WordSignedS _ _ _).mono ?_; rintro e w' ⟨rfl, rfl⟩) | (go_at_call 132; refine (c_WordFromS _ _ _).mono ?_; rintro e w' ⟨rfl, rfl⟩) | (go_at_call 89; refine (c_WordOkS _ _ _).mono ?_; rintro e w' ⟨rfl, rfl⟩))
  go_ret2
  exact ⟨ret2b rfl rfl, rfl⟩
theorem c_l1Says22 (n a b : Int) (ha : WOk n a) (hb : WOk n b) (w : World) :
    Calls Tryz.prog 136 #[.int .i64 22, .int .i64 n, .int .i64 a, .int .i64 b] w fun e w' => e = .returned (.tuple #[.bool (decide (a < b)), .bool true]) ∧ w' = w := by
  clear ha hb
  go_enter Tryz.func136, Tryz.ntmps136
  go_wp2_with (first | (go_at_call 133; refine (c_WordSignedS _ _ _).mono ?_; rintro e w' ⟨rfl, rfl⟩) | (go_at_call 132; refine (c_WordFromS _ _ _).mono ?_; rintro e w' ⟨rfl, rfl⟩) | (go_at_call 89; refine (c_WordOkS _ _ _).mono ?_; rintro e w' ⟨rfl, rfl⟩))
  go_ret2
  exact ⟨ret2b rfl rfl, rfl⟩
theorem c_l1Says23 (n a b : Int) (ha : WOk n a) (hb : WOk n b) (w : World) :
    Calls Tryz.prog 136 #[.int .i64 23, .int .i64 n, .int .i64 a, .int .i64 b] w fun e w' => e = .returned (.tuple #[.bool (decide (sgn n a < sgn n b)), .bool true]) ∧ w' = w := by
  clear ha hb
  go_enter Tryz.func136, Tryz.ntmps136
  go_wp2_with (first | (go_at_call 133; refine (c_WordSignedS _ _ _).mono ?_; rintro e w' ⟨rfl, rfl⟩) | (go_at_call 132; refine (c_WordFromS _ _ _).mono ?_; rintro e w' ⟨rfl, rfl⟩) | (go_at_call 89; refine (c_WordOkS _ _ _).mono ?_; rintro e w' ⟨rfl, rfl⟩))
  go_ret2
  exact ⟨ret2b rfl rfl, rfl⟩
theorem c_l1Says24 (n a b : Int) (ha : WOk n a) (hb : WOk n b) (w : World) :
    Calls Tryz.prog 136 #[.int .i64 24, .int .i64 n, .int .i64 a, .int .i64 b] w fun e w' => e = .returned (.tuple #[.bool (decide (a ≤ b)), .bool true]) ∧ w' = w := by
  clear ha hb
  go_enter Tryz.func136, Tryz.ntmps136
  go_wp2_with (first | (go_at_call 133; refine (c_WordSignedS _ _ _).mono ?_; rintro e w' ⟨rfl, rfl⟩) | (go_at_call 132; refine (c_WordFromS _ _ _).mono ?_; rintro e w' ⟨rfl, rfl⟩) | (go_at_call 89; refine (c_WordOkS _ _ _).mono ?_; rintro e w' ⟨rfl, rfl⟩))
  go_ret2
  exact ⟨ret2b rfl rfl, rfl⟩
theorem c_l1Says25 (n a b : Int) (ha : WOk n a) (hb : WOk n b) (w : World) :
    Calls Tryz.prog 136 #[.int .i64 25, .int .i64 n, .int .i64 a, .int .i64 b] w fun e w' => e = .returned (.tuple #[.bool (decide (sgn n a ≤ sgn n b)), .bool true]) ∧ w' = w := by
  clear ha hb
  go_enter Tryz.func136, Tryz.ntmps136
  go_wp2_with (first | (go_at_call 133; refine (c_WordSignedS _ _ _).mono ?_; rintro e w' ⟨rfl, rfl⟩) | (go_at_call 132; refine (c_WordFromS _ _ _).mono ?_; rintro e w' ⟨rfl, rfl⟩) | (go_at_call 89; refine (c_WordOkS _ _ _).mono ?_; rintro e w' ⟨rfl, rfl⟩))
  go_ret2
  exact ⟨ret2b rfl rfl, rfl⟩
theorem c_l1Says26 (n a b : Int) (ha : WOk n a) (hb : WOk n b) (w : World) :
    Calls Tryz.prog 136 #[.int .i64 26, .int .i64 n, .int .i64 a, .int .i64 b] w fun e w' => e = .returned (.tuple #[.bool (decide (2 ^ n.toNat ≤ a + b)), .bool true]) ∧ w' = w := by
  have hw : wrap64 (a + b) = a + b := by have := ha.lt; have := hb.lt; have := ha.2.2.1; have := hb.2.2.1; exact IntWalk.wrap64_in _ (by omega)
  have hi : Hid _ := not_ok_iff ha.1 ha.2.1 (x := a + b) (by have := ha.2.2.1; have := hb.2.2.1; omega)
  clear ha hb
  go_enter Tryz.func136, Tryz.ntmps136
  go_wp2_with (first | (go_at_call 133; refine (c_WordSignedS _ _ _).mono ?_; rintro e w' ⟨rfl, rfl⟩) | (go_at_call 132; refine (c_WordFromS _ _ _).mono ?_; rintro e w' ⟨rfl, rfl⟩) | (go_at_call 89; refine (c_WordOkS _ _ _).mono ?_; rintro e w' ⟨rfl, rfl⟩))
  go_ret2
  exact ⟨ret2b (by rw [Bool.eq_iff_iff]; simp [← hi.out]) rfl, rfl⟩
theorem c_l1Says27 (n a b : Int) (ha : WOk n a) (hb : WOk n b) (w : World) :
    Calls Tryz.prog 136 #[.int .i64 27, .int .i64 n, .int .i64 a, .int .i64 b] w fun e w' => e = .returned (.tuple #[.bool (decide (sgn n (frm n (sgn n a + sgn n b)) ≠ sgn n a + sgn n b)), .bool true]) ∧ w' = w := by
  have hw : wrap64 (sgn n a + sgn n b) = sgn n a + sgn n b := by have := sgn_bound n a; have := sgn_bound n b; exact IntWalk.wrap64_in _ (by omega)
  clear ha hb
  go_enter Tryz.func136, Tryz.ntmps136
  go_wp2_with (first | (go_at_call 133; refine (c_WordSignedS _ _ _).mono ?_; rintro e w' ⟨rfl, rfl⟩) | (go_at_call 132; refine (c_WordFromS _ _ _).mono ?_; rintro e w' ⟨rfl, rfl⟩) | (go_at_call 89; refine (c_WordOkS _ _ _).mono ?_; rintro e w' ⟨rfl, rfl⟩))
  go_ret2
  exact ⟨ret2b (by rw [Bool.eq_iff_iff]; simp) rfl, rfl⟩
theorem c_l1Says28 (n a b : Int) (ha : WOk n a) (hb : WOk n b) (w : World) :
    Calls Tryz.prog 136 #[.int .i64 28, .int .i64 n, .int .i64 a, .int .i64 b] w fun e w' => e = .returned (.tuple #[.bool (decide (2 ^ n.toNat ≤ a * b)), .bool true]) ∧ w' = w := by
  have hw : wrap64 (a * b) = a * b := by have := mul_bound ha.2.2.1 ha.lt hb.2.2.1 hb.lt; exact IntWalk.wrap64_in _ (by omega)
  have hi : Hid _ := not_ok_iff ha.1 ha.2.1 (x := a * b) (Int.mul_nonneg ha.2.2.1 hb.2.2.1)
  clear ha hb
  go_enter Tryz.func136, Tryz.ntmps136
  go_wp2_with (first | (go_at_call 133; refine (c_WordSignedS _ _ _).mono ?_; rintro e w' ⟨rfl, rfl⟩) | (go_at_call 132; refine (c_WordFromS _ _ _).mono ?_; rintro e w' ⟨rfl, rfl⟩) | (go_at_call 89; refine (c_WordOkS _ _ _).mono ?_; rintro e w' ⟨rfl, rfl⟩))
  go_ret2
  exact ⟨ret2b (by rw [Bool.eq_iff_iff]; simp [← hi.out]) rfl, rfl⟩
theorem c_l1SaysNo (kind n a b : Int) (hk : kind < 21 ∨ 28 < kind) (w : World) :
    Calls Tryz.prog 136 #[.int .i64 kind, .int .i64 n, .int .i64 a, .int .i64 b] w fun e w' => e = .returned (.tuple #[.bool false, .bool false]) ∧ w' = w := by
  have e21 : (kind == 21) = false := by simp; omega
  have e22 : (kind == 22) = false := by simp; omega
  have e23 : (kind == 23) = false := by simp; omega
  have e24 : (kind == 24) = false := by simp; omega
  have e25 : (kind == 25) = false := by simp; omega
  have e26 : (kind == 26) = false := by simp; omega
  have e27 : (kind == 27) = false := by simp; omega
  have e28 : (kind == 28) = false := by simp; omega
  clear hk
  go_enter Tryz.func136, Tryz.ntmps136
  go_wp2_with (first | (go_at_call 133; refine (c_WordSignedS _ _ _).mono ?_; rintro e w' ⟨rfl, rfl⟩))
  go_ret2
  exact ⟨rfl, rfl⟩
end Go.Proofs.YtbkcecilbpngcaaGreat
