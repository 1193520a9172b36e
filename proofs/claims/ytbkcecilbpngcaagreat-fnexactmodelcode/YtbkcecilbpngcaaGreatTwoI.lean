/-
  What the program's functions of two words answer, at words of one width; they only read.
-/
import Derived.Test.YtbkcecilbpngcaaGreatRows
import Derived.Test.YtbkcecilbpngcaaGreatPaA
import Derived.Test.YtbkcecilbpngcaaGreatCut
import Derived.Test.YtbkcecilbpngcaaGreatBits
import Derived.WalkKit
import Derived.ProofKit
import Derived.OpenShut
import Derived.WalkSpells
import Derived.WalkLawsBesides
import Derived.Outline
import Derived.BigQuiet
namespace Go.Proofs.YtbkcecilbpngcaaGreat
open Go.ChangeShapes Go.WideShapes Go.ChangeAt Go.RowKit
set_option linter.unusedVariables false

theorem c_wordAnd (n a b : Int) (ha : WOk n a) (hb : WOk n b) (w : World) :
    Calls Tryz.prog 170 #[.int .i64 n, .int .i64 a, .int .i64 b] w fun e w' => e = .returned (.int .i64 (vAnd a b)) ∧ w' = w := by
  go_enter Tryz.func170, Tryz.ntmps170
  go_wp2
  go_ret
  exact ⟨ret_int (i64_and _ _ ha.2.2.1 ha.lt hb.2.2.1 hb.lt), rfl⟩
theorem c_wordOr (n a b : Int) (ha : WOk n a) (hb : WOk n b) (w : World) :
    Calls Tryz.prog 171 #[.int .i64 n, .int .i64 a, .int .i64 b] w fun e w' => e = .returned (.int .i64 (vOr a b)) ∧ w' = w := by
  go_enter Tryz.func171, Tryz.ntmps171
  go_wp2
  go_ret
  exact ⟨ret_int (i64_or _ _ ha.2.2.1 ha.lt hb.2.2.1 hb.lt), rfl⟩
theorem c_wordXor (n a b : Int) (ha : WOk n a) (hb : WOk n b) (w : World) :
    Calls Tryz.prog 172 #[.int .i64 n, .int .i64 a, .int .i64 b] w fun e w' => e = .returned (.int .i64 (vXor a b)) ∧ w' = w := by
  go_enter Tryz.func172, Tryz.ntmps172
  go_wp2
  go_ret
  exact ⟨ret_int (i64_xor _ _ ha.2.2.1 ha.lt hb.2.2.1 hb.lt), rfl⟩
theorem c_wordAdd (n a b : Int) (ha : WOk n a) (hb : WOk n b) (w : World) :
    Calls Tryz.prog 173 #[.int .i64 n, .int .i64 a, .int .i64 b] w fun e w' => e = .returned (.int .i64 (frm n (a + b))) ∧ w' = w := by
  clear ha hb
  go_enter Tryz.func173, Tryz.ntmps173
  go_wp2_with (first | (go_at_call 158; refine (c_WordFromI _ _ _).mono ?_; rintro e w' ⟨rfl, rfl⟩))
  go_ret
  exact ⟨ret_int (frm_wrap _ _), rfl⟩
theorem c_wordSub (n a b : Int) (ha : WOk n a) (hb : WOk n b) (w : World) :
    Calls Tryz.prog 174 #[.int .i64 n, .int .i64 a, .int .i64 b] w fun e w' => e = .returned (.int .i64 (frm n (a - b))) ∧ w' = w := by
  clear ha hb
  go_enter Tryz.func174, Tryz.ntmps174
  go_wp2_with (first | (go_at_call 158; refine (c_WordFromI _ _ _).mono ?_; rintro e w' ⟨rfl, rfl⟩))
  go_ret
  exact ⟨ret_int (frm_wrap _ _), rfl⟩
theorem c_wordMul (n a b : Int) (ha : WOk n a) (hb : WOk n b) (w : World) :
    Calls Tryz.prog 175 #[.int .i64 n, .int .i64 a, .int .i64 b] w fun e w' => e = .returned (.int .i64 (frm n (a * b))) ∧ w' = w := by
  clear ha hb
  go_enter Tryz.func175, Tryz.ntmps175
  go_wp2_with (first | (go_at_call 158; refine (c_WordFromI _ _ _).mono ?_; rintro e w' ⟨rfl, rfl⟩))
  go_ret
  exact ⟨ret_int (frm_wrap _ _), rfl⟩
theorem c_wordDiv (n a b : Int) (ha : WOk n a) (hb : WOk n b) (w : World) :
    Calls Tryz.prog 176 #[.int .i64 n, .int .i64 a, .int .i64 b] w fun e w' => e = .returned (.int .i64 (vDiv n a b)) ∧ w' = w := by
  by_cases h0 : b = 0
  · subst h0
    go_enter Tryz.func176, Tryz.ntmps176
    go_wp2_with (first | (go_at_call 145; refine (c_wordTop _ ha.1 ha.2.1 _).mono ?_; rintro e w' ⟨rfl, rfl⟩))
    go_ret
    exact ⟨ret_int (if_pos rfl).symm, rfl⟩
  · have hB : Hid _ := div_bound ha.2.2.1 ha.lt hb.2.2.1
    have h1 := ha.2.2.1
    have e : a.tdiv b = a / b := Int.tdiv_eq_ediv_of_nonneg h1
    have hw : wrap64 (a / b) = a / b := by have := hB.out; exact IntWalk.wrap64_in _ (by omega)
    clear ha hb
    go_enter Tryz.func176, Tryz.ntmps176
    go_wp2
    go_ret
    exact ⟨ret_int (by unfold vDiv; rw [if_neg h0]; exact hw), rfl⟩
theorem c_wordRem (n a b : Int) (ha : WOk n a) (hb : WOk n b) (w : World) :
    Calls Tryz.prog 177 #[.int .i64 n, .int .i64 a, .int .i64 b] w fun e w' => e = .returned (.int .i64 (vRem a b)) ∧ w' = w := by
  by_cases h0 : b = 0
  · subst h0
    clear ha hb
    go_enter Tryz.func177, Tryz.ntmps177
    go_wp2
    go_ret
    exact ⟨ret_int (if_pos rfl).symm, rfl⟩
  · have h1 := ha.2.2.1
    have e : a.tmod b = a % b := Int.tmod_eq_emod_of_nonneg h1
    clear ha hb
    go_enter Tryz.func177, Tryz.ntmps177
    go_wp2
    go_ret
    exact ⟨ret_int (by unfold vRem; rw [if_neg h0]), rfl⟩
theorem sign_neg {n a : Int} (h : WOk n a) : (a / 2 ^ (n.toNat - 1) % 2 = 1) ↔ sgn n a < 0 := by
  rw [sign_bit h, sgn_eq h]
  have := h.2.2.1; have := h.2.2.2; have := p2_half h.1
  split <;> omega
theorem c_wordSdiv (n a b : Int) (ha : WOk n a) (hb : WOk n b) (w : World) :
    Calls Tryz.prog 178 #[.int .i64 n, .int .i64 a, .int .i64 b] w fun e w' => e = .returned (.int .i64 (vSdiv n a b)) ∧ w' = w := by
  by_cases h0 : b = 0
  · subst h0
    have hs : Hid _ := sign_neg ha
    have h1 := ha.1; have h2 := ha.2.1
    by_cases hc : a / 2 ^ (n.toNat - 1) % 2 = 1
    · go_enter Tryz.func178, Tryz.ntmps178
      go_wp2_with (first | (go_at_call 164; refine (c_wordSign _ _ ha.1 ha.2.1 _).mono ?_; rintro e w' ⟨rfl, rfl⟩))
      go_ret
      exact ⟨ret_int (by unfold vSdiv; rw [if_pos rfl, if_pos (hs.out.mp hc)]), rfl⟩
    · have hc' : (a / 2 ^ (n.toNat - 1) % 2 == 1) = false := by simp; omega
      go_enter Tryz.func178, Tryz.ntmps178
      go_wp2_with (first | (go_at_call 164; refine (c_wordSign _ _ ha.1 ha.2.1 _).mono ?_; rintro e w' ⟨rfl, rfl⟩) | (go_at_call 145; refine (c_wordTop _ ha.1 ha.2.1 _).mono ?_; rintro e w' ⟨rfl, rfl⟩))
      go_ret
      exact ⟨ret_int (by unfold vSdiv; rw [if_pos rfl, if_neg (fun k => hc (hs.out.mpr k))]), rfl⟩
  · have hne : ¬ sgn n b = 0 := sgn_ne_zero hb h0
    have h0' : (b == 0) = false := by simp; exact h0
    clear ha hb
    go_enter Tryz.func178, Tryz.ntmps178
    go_wp2_with (first | (go_at_call 159; refine (c_WordSignedI _ _ _).mono ?_; rintro e w' ⟨rfl, rfl⟩) | (go_at_call 158; refine (c_WordFromI _ _ _).mono ?_; rintro e w' ⟨rfl, rfl⟩))
    go_ret
    exact ⟨ret_int (by unfold vSdiv; rw [if_neg h0]; first | exact frm_wrap _ _ | rfl), rfl⟩
theorem c_wordSrem (n a b : Int) (ha : WOk n a) (hb : WOk n b) (w : World) :
    Calls Tryz.prog 179 #[.int .i64 n, .int .i64 a, .int .i64 b] w fun e w' => e = .returned (.int .i64 (vSrem n a b)) ∧ w' = w := by
  by_cases h0 : b = 0
  · subst h0
    clear ha hb
    go_enter Tryz.func179, Tryz.ntmps179
    go_wp2
    go_ret
    exact ⟨ret_int (by unfold vSrem; rw [if_pos rfl]), rfl⟩
  · have hne : ¬ sgn n b = 0 := sgn_ne_zero hb h0
    have h0' : (b == 0) = false := by simp; exact h0
    clear ha hb
    go_enter Tryz.func179, Tryz.ntmps179
    go_wp2_with (first | (go_at_call 159; refine (c_WordSignedI _ _ _).mono ?_; rintro e w' ⟨rfl, rfl⟩) | (go_at_call 158; refine (c_WordFromI _ _ _).mono ?_; rintro e w' ⟨rfl, rfl⟩))
    go_ret
    exact ⟨ret_int (by unfold vSrem; rw [if_neg h0]), rfl⟩
theorem c_wordShl (n a b : Int) (ha : WOk n a) (hb : WOk n b) (w : World) :
    Calls Tryz.prog 180 #[.int .i64 n, .int .i64 a, .int .i64 b] w fun e w' => e = .returned (.int .i64 (vShl n a b)) ∧ w' = w := by
  have h3 := hb.2.2.1; have h4 := hb.lt
  clear ha hb
  go_enter Tryz.func180, Tryz.ntmps180
  go_wp2_with (first | (go_at_call 158; refine (c_WordFromI _ _ _).mono ?_; rintro e w' ⟨rfl, rfl⟩))
  go_ret
  exact ⟨ret_int (by unfold vShl; rw [frm_wrap, shl_min]), rfl⟩
theorem c_wordShr (n a b : Int) (ha : WOk n a) (hb : WOk n b) (w : World) :
    Calls Tryz.prog 181 #[.int .i64 n, .int .i64 a, .int .i64 b] w fun e w' => e = .returned (.int .i64 (vShr a b)) ∧ w' = w := by
  have h3 := hb.2.2.1; have h4 := hb.lt
  have h1 := ha.2.2.1; have h2 := ha.lt
  clear ha hb
  go_enter Tryz.func181, Tryz.ntmps181
  go_wp2
  go_ret
  exact ⟨ret_int (shr_min (by omega) h2 _), rfl⟩
theorem c_wordSar (n a b : Int) (ha : WOk n a) (hb : WOk n b) (w : World) :
    Calls Tryz.prog 182 #[.int .i64 n, .int .i64 a, .int .i64 b] w fun e w' => e = .returned (.int .i64 (vSar n a b)) ∧ w' = w := by
  have h3 := hb.2.2.1; have h4 := hb.lt
  have hs : Hid _ := sgn_bound n a
  clear ha hb
  go_enter Tryz.func182, Tryz.ntmps182
  go_wp2_with (first | (go_at_call 159; refine (c_WordSignedI _ _ _).mono ?_; rintro e w' ⟨rfl, rfl⟩) | (go_at_call 158; refine (c_WordFromI _ _ _).mono ?_; rintro e w' ⟨rfl, rfl⟩))
  go_ret
  exact ⟨ret_int (by have := hs.out; unfold vSar; rw [shr_min (by omega) (by omega)]), rfl⟩
theorem c_wordEq (n a b : Int) (ha : WOk n a) (hb : WOk n b) (w : World) :
    Calls Tryz.prog 185 #[.int .i64 n, .int .i64 a, .int .i64 b] w fun e w' => e = .returned (.int .i64 ((decide (a = b)).toNat)) ∧ w' = w := by
  clear ha hb
  go_enter Tryz.func185, Tryz.ntmps185
  go_wp2_with (first | (go_at_call 194; refine (c_wordFlag _ _).mono ?_; rintro e w' ⟨rfl, rfl⟩))
  go_ret
  exact ⟨ret_int (by congr 2), rfl⟩
theorem c_wordLess (n a b : Int) (ha : WOk n a) (hb : WOk n b) (w : World) :
    Calls Tryz.prog 186 #[.int .i64 n, .int .i64 a, .int .i64 b] w fun e w' => e = .returned (.int .i64 ((decide (a < b)).toNat)) ∧ w' = w := by
  clear ha hb
  go_enter Tryz.func186, Tryz.ntmps186
  go_wp2_with (first | (go_at_call 194; refine (c_wordFlag _ _).mono ?_; rintro e w' ⟨rfl, rfl⟩))
  go_ret
  exact ⟨ret_int (by congr 2), rfl⟩
theorem c_wordSless (n a b : Int) (ha : WOk n a) (hb : WOk n b) (w : World) :
    Calls Tryz.prog 187 #[.int .i64 n, .int .i64 a, .int .i64 b] w fun e w' => e = .returned (.int .i64 ((decide (sgn n a < sgn n b)).toNat)) ∧ w' = w := by
  clear ha hb
  go_enter Tryz.func187, Tryz.ntmps187
  go_wp2_with (first | (go_at_call 194; refine (c_wordFlag _ _).mono ?_; rintro e w' ⟨rfl, rfl⟩) | (go_at_call 159; refine (c_WordSignedI _ _ _).mono ?_; rintro e w' ⟨rfl, rfl⟩))
  go_ret
  exact ⟨ret_int (by congr 2), rfl⟩
theorem c_wordMost (n a b : Int) (ha : WOk n a) (hb : WOk n b) (w : World) :
    Calls Tryz.prog 188 #[.int .i64 n, .int .i64 a, .int .i64 b] w fun e w' => e = .returned (.int .i64 ((decide (a ≤ b)).toNat)) ∧ w' = w := by
  clear ha hb
  go_enter Tryz.func188, Tryz.ntmps188
  go_wp2_with (first | (go_at_call 194; refine (c_wordFlag _ _).mono ?_; rintro e w' ⟨rfl, rfl⟩))
  go_ret
  exact ⟨ret_int (by congr 2), rfl⟩
theorem c_wordSmost (n a b : Int) (ha : WOk n a) (hb : WOk n b) (w : World) :
    Calls Tryz.prog 189 #[.int .i64 n, .int .i64 a, .int .i64 b] w fun e w' => e = .returned (.int .i64 ((decide (sgn n a ≤ sgn n b)).toNat)) ∧ w' = w := by
  clear ha hb
  go_enter Tryz.func189, Tryz.ntmps189
  go_wp2_with (first | (go_at_call 194; refine (c_wordFlag _ _).mono ?_; rintro e w' ⟨rfl, rfl⟩) | (go_at_call 159; refine (c_WordSignedI _ _ _).mono ?_; rintro e w' ⟨rfl, rfl⟩))
  go_ret
  exact ⟨ret_int (by congr 2), rfl⟩
theorem c_wordCarry (n a b : Int) (ha : WOk n a) (hb : WOk n b) (w : World) :
    Calls Tryz.prog 190 #[.int .i64 n, .int .i64 a, .int .i64 b] w fun e w' => e = .returned (.int .i64 ((decide (2 ^ n.toNat ≤ a + b)).toNat)) ∧ w' = w := by
  have hw : wrap64 (a + b) = a + b := by have := ha.lt; have := hb.lt; have := ha.2.2.1; have := hb.2.2.1; exact IntWalk.wrap64_in _ (by omega)
  go_enter Tryz.func190, Tryz.ntmps190
  go_wp2_with (first | (go_at_call 194; refine (c_wordFlag _ _).mono ?_; rintro e w' ⟨rfl, rfl⟩) | (go_at_call 145; refine (c_wordTop _ ha.1 ha.2.1 _).mono ?_; rintro e w' ⟨rfl, rfl⟩))
  go_ret
  exact ⟨ret_int (by congr 2; rw [Bool.eq_iff_iff]; simp; omega), rfl⟩
theorem c_wordSover (n a b : Int) (ha : WOk n a) (hb : WOk n b) (w : World) :
    Calls Tryz.prog 191 #[.int .i64 n, .int .i64 a, .int .i64 b] w fun e w' => e = .returned (.int .i64 ((decide (sgn n (frm n (sgn n a + sgn n b)) ≠ sgn n a + sgn n b)).toNat)) ∧ w' = w := by
  have hw : wrap64 (sgn n a + sgn n b) = sgn n a + sgn n b := by have := sgn_bound n a; have := sgn_bound n b; exact IntWalk.wrap64_in _ (by omega)
  clear ha hb
  go_enter Tryz.func191, Tryz.ntmps191
  go_wp2_with (first | (go_at_call 194; refine (c_wordFlag _ _).mono ?_; rintro e w' ⟨rfl, rfl⟩) | (go_at_call 159; refine (c_WordSignedI _ _ _).mono ?_; rintro e w' ⟨rfl, rfl⟩) | (go_at_call 158; refine (c_WordFromI _ _ _).mono ?_; rintro e w' ⟨rfl, rfl⟩))
  go_ret
  exact ⟨ret_int (by congr 2; rw [Bool.eq_iff_iff]; simp; omega), rfl⟩
theorem c_wordMover (n a b : Int) (ha : WOk n a) (hb : WOk n b) (w : World) :
    Calls Tryz.prog 192 #[.int .i64 n, .int .i64 a, .int .i64 b] w fun e w' => e = .returned (.int .i64 ((decide (2 ^ n.toNat ≤ a * b)).toNat)) ∧ w' = w := by
  have hw : wrap64 (a * b) = a * b := by have := mul_bound ha.2.2.1 ha.lt hb.2.2.1 hb.lt; exact IntWalk.wrap64_in _ (by omega)
  go_enter Tryz.func192, Tryz.ntmps192
  go_wp2_with (first | (go_at_call 194; refine (c_wordFlag _ _).mono ?_; rintro e w' ⟨rfl, rfl⟩) | (go_at_call 145; refine (c_wordTop _ ha.1 ha.2.1 _).mono ?_; rintro e w' ⟨rfl, rfl⟩))
  go_ret
  exact ⟨ret_int (by congr 2; rw [Bool.eq_iff_iff]; simp; omega), rfl⟩
theorem rol_step {n a b : Int} {k : Nat} (h : WOk n a) (hr : (b % n).toNat < n.toNat) (hk : (k : Int) < n) :
    bits .or .i64 (turnAt n.toNat (b % n).toNat k a) (wrap64 (a / 2 ^ k % 2 * 2 ^ (((k : Int) + b) % n).toNat)) = turnAt n.toNat (b % n).toNat k a + a / 2 ^ k % 2 * 2 ^ (((k : Int) + b) % n).toNat := by
  have hs := spot_eq (b := b) h.1 hk
  have h2 := h.2.1
  have hp : (((k : Int) + b) % n).toNat < 16 := by
    have := Int.emod_lt_of_pos ((k : Int) + b) (b := n) (by omega); have := Int.emod_nonneg ((k : Int) + b) (b := n) (by omega); omega
  have hle : (2 : Int) ^ (((k : Int) + b) % n).toNat ≤ 65536 := by
    have := p2_mono (i := (((k : Int) + b) % n).toNat) (j := 16) (by omega); simpa using this
  have hpp := p2_pos (((k : Int) + b) % n).toNat
  have hw : wrap64 (a / 2 ^ k % 2 * 2 ^ (((k : Int) + b) % n).toNat) = a / 2 ^ k % 2 * 2 ^ (((k : Int) + b) % n).toNat := by
    apply IntWalk.wrap64_in
    rcases (by omega : a / 2 ^ k % 2 = 0 ∨ a / 2 ^ k % 2 = 1) with e | e <;> rw [e] <;> omega
  rw [hw]
  have hlt := turnAt_lt hr (k := k) (by omega) a
  have hn16 := p2_le h2
  exact or_free (turnAt_nonneg ..) (by omega) hp (by rw [hs]; exact turnAt_free hr (by omega) a) (by omega)

theorem c_wordRol (n a b : Int) (ha : WOk n a) (hb0 : 0 ≤ b) (hb1 : b ≤ 70000) (w : World) :
    Calls Tryz.prog 183 #[.int .i64 n, .int .i64 a, .int .i64 b] w fun e w' => e = .returned (.int .i64 (vRol n a b)) ∧ ∃ m, w' = w.drewN m := by
  have h1 := ha.1; have h2 := ha.2.1
  have hr0 : (b % n).toNat < n.toNat := by
    have := Int.emod_nonneg b (b := n) (by omega); have := Int.emod_lt_of_pos b (b := n) (by omega); omega
  have hA : Hid (WOk n a) := ha
  have hr : Hid ((b % n).toNat < n.toNat) := hr0
  clear ha hr0
  go_enter Tryz.func183, Tryz.ntmps183
  go_wp2
  go_loopw [7, 8, 10] (fun t _ i wr => ∃ k : Nat, (k : Int) ≤ n ∧ i = .int .i64 k ∧ t = .int .i64 (turnAt n.toNat (b % n).toNat k a) ∧ ∃ m, wr = w.drewN m) (fun _ _ i _ => (n - intOf i).toNat)
  case atStart => exact ⟨0, by omega, rfl, by rw [turnAt_zero], 0, rfl⟩
  case round =>
    obtain ⟨k, hk, rfl, rfl, m, hm⟩ := hrel
    have hM : Hid (wr = w.drewN m) := hm
    clear hm
    by_cases hlt : (k : Int) < n
    · have hne : ¬ n = 0 := by omega
      have hw1 : wrap64 ((k : Int) + b) = k + b := IntWalk.wrap64_in _ (by omega)
      have ht : ((k : Int) + b).tmod n = (k + b) % n := Int.tmod_eq_emod_of_nonneg (by omega)
      have hm1 := Int.emod_nonneg ((k : Int) + b) (b := n) (by omega)
      have hm2 := Int.emod_lt_of_pos ((k : Int) + b) (b := n) (by omega)
      go_wp2
      go_quiet (first | (go_at_call 193; exact Calls.quiet_of_same (c_wordBit _ _ (by omega) (by omega) _)))
      go_wp2
      go_roundw
      case rel =>
        refine ⟨k + 1, by omega, by go_num, ?_, m + nq, by rw [hM.out, World.drewN_drewN]⟩
        rw [turnAt_succ hr.out, ← spot_eq h1 hlt, ← rol_step hA.out hr.out hlt]
      case measure => simp [intOf]; omega
    · have hkn : k = n.toNat := by omega
      subst hkn
      go_wp2
      go_ret
      exact ⟨ret_int (turnAt_all hr.out hA.out.2.2.1 hA.out.2.2.2), m, hM.out⟩
theorem c_wordRor (n a b : Int) (ha : WOk n a) (hb : WOk n b) (w : World) :
    Calls Tryz.prog 184 #[.int .i64 n, .int .i64 a, .int .i64 b] w fun e w' => e = .returned (.int .i64 (vRor n a b)) ∧ ∃ m, w' = w.drewN m := by
  have h1 := ha.1; have h2 := ha.2.1
  have h3 := hb.2.2.1
  have hne : ¬ n = 0 := by omega
  have ht : b.tmod n = b % n := Int.tmod_eq_emod_of_nonneg h3
  have hm1 := Int.emod_nonneg b (b := n) (by omega)
  have hm2 := Int.emod_lt_of_pos b (b := n) (by omega)
  have hw : wrap64 (n - b % n) = n - b % n := IntWalk.wrap64_in _ (by omega)
  have hA : Hid (WOk n a) := ha
  clear ha hb
  go_enter Tryz.func184, Tryz.ntmps184
  go_wp2_with (go_at_call 183; refine (c_wordRol _ _ _ hA.out (by omega) (by omega) _).mono ?_; rintro e w' ⟨rfl, m, rfl⟩)
  go_ret
  exact ⟨rfl, _, rfl⟩
end Go.Proofs.YtbkcecilbpngcaaGreat
