/-
  The bits of a word, counted: what both loops over bits come to.
-/
import Derived.Test.YtbkcecilbpngcaaGreatRows
import Derived.Test.YtbkcecilbpngcaaGreatPaA
import Derived.Test.YtbkcecilbpngcaaGreatCut
import Derived.WalkKit
import Derived.ProofKit
import Derived.OpenShut
import Derived.WalkSpells
import Derived.WalkLawsBesides
import Derived.Outline
import Derived.BigQuiet
import Derived.Laws.EntriesVeiled
import Derived.Laws.Rows
namespace Go.Proofs.YtbkcecilbpngcaaGreat
open Go.ChangeShapes Go.WideShapes Go.ChangeAt Go.RowKit

/-- How many of the lowest k bits are 1. -/
def ones : Nat → Int → Int
  | 0, _ => 0
  | k + 1, a => ones k a + a / 2 ^ k % 2
theorem ones_bound (k : Nat) (a : Int) : 0 ≤ ones k a ∧ ones k a ≤ k := by
  induction k with
  | zero => exact ⟨Int.le_refl _, Int.le_refl _⟩
  | succ k ih => unfold ones; omega
theorem mod_succ (k : Nat) (a : Int) : a % 2 ^ (k + 1) = a % 2 ^ k + 2 ^ k * (a / 2 ^ k % 2) := by
  have hp := p2_pos k
  rw [Int.pow_succ]
  have e1 := Int.emod_add_mul_ediv a (2 ^ k)
  have e2 := Int.emod_add_mul_ediv (a / 2 ^ k) 2
  have e3 := Int.emod_add_mul_ediv a (2 ^ k * 2)
  rw [← Int.ediv_ediv_of_nonneg (by omega)] at e3
  have e4 : (2 : Int) ^ k * 2 * (a / 2 ^ k / 2) = 2 ^ k * (2 * (a / 2 ^ k / 2)) := Int.mul_assoc ..
  have e5 : (2 : Int) ^ k * (a / 2 ^ k) = 2 ^ k * (a / 2 ^ k % 2) + 2 ^ k * (2 * (a / 2 ^ k / 2)) := by
    rw [← Int.mul_add, e2]
  omega
theorem ones_all (k : Nat) (a : Int) : ones k a = k ↔ a % 2 ^ k = 2 ^ k - 1 := by
  induction k with
  | zero => simp [ones]
  | succ k ih =>
    have hb := ones_bound k a
    have hp := p2_pos k
    have h0 := Int.emod_nonneg a (b := 2 ^ k) (by omega)
    have h1 := Int.emod_lt_of_pos a hp
    unfold ones
    rw [mod_succ, Int.pow_succ]
    rcases (by omega : a / 2 ^ k % 2 = 0 ∨ a / 2 ^ k % 2 = 1) with h | h
    · rw [h]; omega
    · rw [h]; omega
theorem all_iff {n a : Int} (h : WOk n a) : ones n.toNat a = n ↔ a = 2 ^ n.toNat - 1 := by
  have := ones_all n.toNat a
  rw [Int.emod_eq_of_lt h.2.2.1 h.2.2.2] at this
  rw [← this]
  have := h.1
  omega

theorem c_l1Ones (n a : Int) (h0 : 0 ≤ a) (h1 : 1 ≤ n) (h2 : n ≤ 16) (w : World) :
    Calls Tryz.prog 135 #[.int .i64 n, .int .i64 a] w fun e w' => e = .returned (.int .i64 (ones n.toNat a)) ∧ w' = w := by
  go_enter Tryz.func135, Tryz.ntmps135
  go_wp2
  go_loop [5, 6] (fun t i => ∃ k : Nat, (k : Int) ≤ n ∧ i = .int .i64 k ∧ t = .int .i64 (ones k a)) (fun _ i => (n - intOf i).toNat)
  case atStart => exact ⟨0, by omega, rfl, rfl⟩
  case round =>
    obtain ⟨k, hk, rfl, rfl⟩ := hrel
    have hb := ones_bound k a
    have hw : wrap64 (ones k a + a / 2 ^ k % 2) = ones k a + a / 2 ^ k % 2 := IntWalk.wrap64_in _ (by omega)
    go_wp2_with (go_at_call 157; refine (c_l1Bit _ _ h0 (by omega) (by omega) _).mono ?_; rintro e w' ⟨rfl, rfl⟩)
    · go_round
      case rel => exact ⟨k + 1, by omega, by go_num, rfl⟩
      case measure => simp [intOf]; omega
    · have hkn : k = n.toNat := by omega
      subst hkn
      go_ret
      exact ⟨rfl, rfl⟩

theorem xor_bits {x y : Int} (hx : x = 0 ∨ x = 1) (hy : y = 0 ∨ y = 1) : bits .xor .i64 x y = (x + y) % 2 := by
  rcases hx with rfl | rfl <;> rcases hy with rfl | rfl <;> rfl
theorem ones_odd (k : Nat) (a : Int) : bits .xor .i64 (ones k a % 2) (a / 2 ^ k % 2) = ones (k + 1) a % 2 := by
  rw [xor_bits (by omega) (by omega)]
  show _ = (ones k a + a / 2 ^ k % 2) % 2
  omega

theorem c_wordOdd (n a : Int) (h1 : 1 ≤ n) (h2 : n ≤ 16) (w : World) :
    Calls Tryz.prog 169 #[.int .i64 n, .int .i64 a] w fun e w' => e = .returned (.int .i64 (ones n.toNat a % 2)) ∧ w' = w := by
  go_enter Tryz.func169, Tryz.ntmps169
  go_wp2
  go_loop [5, 6, 8] (fun t _ i => ∃ k : Nat, (k : Int) ≤ n ∧ i = .int .i64 k ∧ t = .int .i64 (ones k a % 2)) (fun _ _ i => (n - intOf i).toNat)
  case atStart => exact ⟨0, by omega, rfl, rfl⟩
  case round =>
    obtain ⟨k, hk, rfl, rfl⟩ := hrel
    have hw := ones_odd k a
    go_wp2_with (go_at_call 193; refine (c_wordBit _ _ (by omega) (by omega) _).mono ?_; rintro e w' ⟨rfl, rfl⟩)
    · go_round
      case rel => exact ⟨k + 1, by omega, by go_num, rfl⟩
      case measure => simp [intOf]; omega
    · have hkn : k = n.toNat := by omega
      subst hkn
      go_ret
      exact ⟨rfl, rfl⟩

/-- The table of the kinds of one word. -/
def oneTab : Array Value := #[.nilFunc, .bool false, .func (.func 165) #[] #[], .bool false, .func (.func 166) #[] #[], .bool false, .func (.func 167) #[] #[], .bool true, .func (.func 168) #[] #[], .bool true, .func (.func 169) #[] #[], .bool true]
theorem c_oneRules (w : World) :
    Calls Tryz.prog 160 #[] w fun e w' => e = .returned (.agg oneTab) ∧ Below w.heap.size w w' := by
  go_enter Tryz.func160, Tryz.ntmps160
  go_wp2
  exact bodyPost_ret (v := .agg oneTab) (results_cell_row rfl _ _ w.heap.size 158 oneTab (0, 0) _ rfl (heap_alloc_new _ _) Tryz.underlying158 rfl (by kernel_rfl)) rfl ⟨rfl, (Below.refl _ _).alloc (Nat.le_refl _) _⟩

def oneR (kind n a : Int) : Int × Int × Bool :=
  if WOk n a then
    if kind = 1 then (2 ^ n.toNat - 1 - a, n, true)
    else if kind = 2 then (frm n (-a), n, true)
    else if kind = 3 then ((decide (0 < a)).toNat, 1, true)
    else if kind = 4 then ((decide (a = 2 ^ n.toNat - 1)).toNat, 1, true)
    else if kind = 5 then (ones n.toNat a % 2, 1, true)
    else (0, 0, false)
  else (0, 0, false)

theorem c_wordNot (n a : Int) (h : WOk n a) (w : World) :
    Calls Tryz.prog 165 #[.int .i64 n, .int .i64 a] w fun e w' => e = .returned (.int .i64 (2 ^ n.toNat - 1 - a)) ∧ w' = w := by
  have hw : wrap64 (2 ^ n.toNat - 1 - a) = 2 ^ n.toNat - 1 - a := by
    have := h.lt; have := h.2.2.1; have := p2_le h.2.1; have := p2_pos n.toNat; exact IntWalk.wrap64_in _ (by omega)
  go_enter Tryz.func165, Tryz.ntmps165
  go_wp2_with (go_at_call 145; refine (c_wordTop _ h.1 h.2.1 _).mono ?_; rintro e w' ⟨rfl, rfl⟩)
  go_ret
  exact ⟨ret_int hw, rfl⟩

theorem c_wordNeg (n a : Int) (h : WOk n a) (w : World) :
    Calls Tryz.prog 166 #[.int .i64 n, .int .i64 a] w fun e w' => e = .returned (.int .i64 (frm n (-a))) ∧ w' = w := by
  have hw : wrap64 (-a) = -a := by have := h.lt; have := h.2.2.1; exact IntWalk.wrap64_in _ (by omega)
  go_enter Tryz.func166, Tryz.ntmps166
  go_wp2_with (go_at_call 158; refine (c_WordFromI _ _ _).mono ?_; rintro e w' ⟨rfl, rfl⟩)
  go_ret
  exact ⟨rfl, rfl⟩
theorem c_wordAny (n a : Int) (h : WOk n a) (w : World) :
    Calls Tryz.prog 167 #[.int .i64 n, .int .i64 a] w fun e w' => e = .returned (.int .i64 (decide (0 < a)).toNat) ∧ w' = w := by
  have h0 := h.2.2.1
  clear h
  go_enter Tryz.func167, Tryz.ntmps167
  go_wp2_with (go_at_call 194; refine (c_wordFlag _ _).mono ?_; rintro e w' ⟨rfl, rfl⟩)
  go_ret
  exact ⟨ret_int (by congr 2; rw [Bool.eq_iff_iff]; simp; omega), rfl⟩
theorem c_wordAll (n a : Int) (h : WOk n a) (w : World) :
    Calls Tryz.prog 168 #[.int .i64 n, .int .i64 a] w fun e w' => e = .returned (.int .i64 (decide (a = 2 ^ n.toNat - 1)).toNat) ∧ w' = w := by
  go_enter Tryz.func168, Tryz.ntmps168
  go_wp2_with (first | (go_at_call 194; refine (c_wordFlag _ _).mono ?_; rintro e w' ⟨rfl, rfl⟩) | (go_at_call 145; refine (c_wordTop _ h.1 h.2.1 _).mono ?_; rintro e w' ⟨rfl, rfl⟩))
  go_ret
  exact ⟨ret_int (by congr 2), rfl⟩

theorem ixOne1 (w : World) : (Instr.index 158 (.agg oneTab) (.int .i64 1)).run Tryz.prog w = .ok (.agg #[.func (.func 165) #[] #[], .bool false]) w := by kernel_rfl
theorem c_WordOneI1 (n a : Int) (h : WOk n a) (w : World) :
    Calls Tryz.prog 149 #[.int .i64 1, .int .i64 n, .int .i64 a] w fun e w' => e = .returned (.tuple #[.int .i64 (2 ^ n.toNat - 1 - a), .int .i64 n, .bool true]) ∧ Below w.heap.size w w' := by
  have hd : decide (WOk n a) = true := decide_eq_true h
  have ix := ixOne1
  go_enter Tryz.func149, Tryz.ntmps149
  go_wp2_with (first | (go_at_call 118; refine (c_WordOkI _ _ _).mono ?_; rintro e w' ⟨rfl, rfl⟩) | (go_at_call 160; refine (c_oneRules _).mono ?_; rintro e w' ⟨rfl, hB⟩))
  go_quiet (first | (go_at_call 165; exact Calls.quiet_of_same (c_wordNot _ _ h _)) | (go_at_call 161; exact Calls.quiet_of_same (c_ruleWidth _ _ _)))
  go_wp2
  go_ret3
  exact ⟨rfl, below_drewN (hB.alloc hB.size _) _⟩

theorem ixOne2 (w : World) : (Instr.index 158 (.agg oneTab) (.int .i64 2)).run Tryz.prog w = .ok (.agg #[.func (.func 166) #[] #[], .bool false]) w := by kernel_rfl
theorem c_WordOneI2 (n a : Int) (h : WOk n a) (w : World) :
    Calls Tryz.prog 149 #[.int .i64 2, .int .i64 n, .int .i64 a] w fun e w' => e = .returned (.tuple #[.int .i64 (frm n (-a)), .int .i64 n, .bool true]) ∧ Below w.heap.size w w' := by
  have hd : decide (WOk n a) = true := decide_eq_true h
  have ix := ixOne2
  go_enter Tryz.func149, Tryz.ntmps149
  go_wp2_with (first | (go_at_call 118; refine (c_WordOkI _ _ _).mono ?_; rintro e w' ⟨rfl, rfl⟩) | (go_at_call 160; refine (c_oneRules _).mono ?_; rintro e w' ⟨rfl, hB⟩))
  go_quiet (first | (go_at_call 166; exact Calls.quiet_of_same (c_wordNeg _ _ h _)) | (go_at_call 161; exact Calls.quiet_of_same (c_ruleWidth _ _ _)))
  go_wp2
  go_ret3
  exact ⟨rfl, below_drewN (hB.alloc hB.size _) _⟩

theorem ixOne3 (w : World) : (Instr.index 158 (.agg oneTab) (.int .i64 3)).run Tryz.prog w = .ok (.agg #[.func (.func 167) #[] #[], .bool true]) w := by kernel_rfl
theorem c_WordOneI3 (n a : Int) (h : WOk n a) (w : World) :
    Calls Tryz.prog 149 #[.int .i64 3, .int .i64 n, .int .i64 a] w fun e w' => e = .returned (.tuple #[.int .i64 ((decide (0 < a)).toNat), .int .i64 1, .bool true]) ∧ Below w.heap.size w w' := by
  have hd : decide (WOk n a) = true := decide_eq_true h
  have ix := ixOne3
  go_enter Tryz.func149, Tryz.ntmps149
  go_wp2_with (first | (go_at_call 118; refine (c_WordOkI _ _ _).mono ?_; rintro e w' ⟨rfl, rfl⟩) | (go_at_call 160; refine (c_oneRules _).mono ?_; rintro e w' ⟨rfl, hB⟩))
  go_quiet (first | (go_at_call 167; exact Calls.quiet_of_same (c_wordAny _ _ h _)) | (go_at_call 161; exact Calls.quiet_of_same (c_ruleWidth _ _ _)))
  go_wp2
  go_ret3
  exact ⟨rfl, below_drewN (hB.alloc hB.size _) _⟩

theorem ixOne4 (w : World) : (Instr.index 158 (.agg oneTab) (.int .i64 4)).run Tryz.prog w = .ok (.agg #[.func (.func 168) #[] #[], .bool true]) w := by kernel_rfl
theorem c_WordOneI4 (n a : Int) (h : WOk n a) (w : World) :
    Calls Tryz.prog 149 #[.int .i64 4, .int .i64 n, .int .i64 a] w fun e w' => e = .returned (.tuple #[.int .i64 ((decide (a = 2 ^ n.toNat - 1)).toNat), .int .i64 1, .bool true]) ∧ Below w.heap.size w w' := by
  have hd : decide (WOk n a) = true := decide_eq_true h
  have ix := ixOne4
  go_enter Tryz.func149, Tryz.ntmps149
  go_wp2_with (first | (go_at_call 118; refine (c_WordOkI _ _ _).mono ?_; rintro e w' ⟨rfl, rfl⟩) | (go_at_call 160; refine (c_oneRules _).mono ?_; rintro e w' ⟨rfl, hB⟩))
  go_quiet (first | (go_at_call 168; exact Calls.quiet_of_same (c_wordAll _ _ h _)) | (go_at_call 161; exact Calls.quiet_of_same (c_ruleWidth _ _ _)))
  go_wp2
  go_ret3
  exact ⟨rfl, below_drewN (hB.alloc hB.size _) _⟩

theorem ixOne5 (w : World) : (Instr.index 158 (.agg oneTab) (.int .i64 5)).run Tryz.prog w = .ok (.agg #[.func (.func 169) #[] #[], .bool true]) w := by kernel_rfl
theorem c_WordOneI5 (n a : Int) (h : WOk n a) (w : World) :
    Calls Tryz.prog 149 #[.int .i64 5, .int .i64 n, .int .i64 a] w fun e w' => e = .returned (.tuple #[.int .i64 (ones n.toNat a % 2), .int .i64 1, .bool true]) ∧ Below w.heap.size w w' := by
  have hd : decide (WOk n a) = true := decide_eq_true h
  have ix := ixOne5
  go_enter Tryz.func149, Tryz.ntmps149
  go_wp2_with (first | (go_at_call 118; refine (c_WordOkI _ _ _).mono ?_; rintro e w' ⟨rfl, rfl⟩) | (go_at_call 160; refine (c_oneRules _).mono ?_; rintro e w' ⟨rfl, hB⟩))
  go_quiet (first | (go_at_call 169; exact Calls.quiet_of_same (c_wordOdd _ _ h.1 h.2.1 _)) | (go_at_call 161; exact Calls.quiet_of_same (c_ruleWidth _ _ _)))
  go_wp2
  go_ret3
  exact ⟨rfl, below_drewN (hB.alloc hB.size _) _⟩

theorem c_WordOneI (kind n a : Int) (w : World) :
    Calls Tryz.prog 149 #[.int .i64 kind, .int .i64 n, .int .i64 a] w fun e w' => e = .returned (.tuple #[.int .i64 (oneR kind n a).1, .int .i64 (oneR kind n a).2.1, .bool (oneR kind n a).2.2]) ∧ Below w.heap.size w w' := by
  by_cases h : WOk n a
  · by_cases hk : 1 ≤ kind ∧ kind ≤ 5
    · rcases (by omega : kind = 1 ∨ kind = 2 ∨ kind = 3 ∨ kind = 4 ∨ kind = 5) with rfl | rfl | rfl | rfl | rfl
      · refine (c_WordOneI1 n a h w).mono ?_; rintro e w' ⟨rfl, hB⟩; exact ⟨by unfold oneR; rw [if_pos h]; rfl, hB⟩
      · refine (c_WordOneI2 n a h w).mono ?_; rintro e w' ⟨rfl, hB⟩; exact ⟨by unfold oneR; rw [if_pos h]; rfl, hB⟩
      · refine (c_WordOneI3 n a h w).mono ?_; rintro e w' ⟨rfl, hB⟩; exact ⟨by unfold oneR; rw [if_pos h]; rfl, hB⟩
      · refine (c_WordOneI4 n a h w).mono ?_; rintro e w' ⟨rfl, hB⟩; exact ⟨by unfold oneR; rw [if_pos h]; rfl, hB⟩
      · refine (c_WordOneI5 n a h w).mono ?_; rintro e w' ⟨rfl, hB⟩; exact ⟨by unfold oneR; rw [if_pos h]; rfl, hB⟩
    · have hr : Hid (oneR kind n a = (0, 0, false)) := by
        show oneR kind n a = (0, 0, false)
        unfold oneR; rw [if_pos h, if_neg (by omega), if_neg (by omega), if_neg (by omega), if_neg (by omega), if_neg (by omega)]
      clear h
      by_cases hk1 : kind < 1
      · go_enter Tryz.func149, Tryz.ntmps149
        go_wp2_with fail
        go_ret3
        exact ⟨ret3 (by rw [hr.out]) (by rw [hr.out]) (by rw [hr.out]), Below.refl _ _⟩
      · have hk2 : 5 < kind := by omega
        go_enter Tryz.func149, Tryz.ntmps149
        go_wp2_with fail
        go_ret3
        exact ⟨ret3 (by rw [hr.out]) (by rw [hr.out]) (by rw [hr.out]), Below.refl _ _⟩
  · have hr : Hid (oneR kind n a = (0, 0, false)) := by show oneR kind n a = (0, 0, false); unfold oneR; rw [if_neg h]
    have hd : decide (WOk n a) = false := decide_eq_false h
    clear h
    by_cases hk1 : kind < 1
    · go_enter Tryz.func149, Tryz.ntmps149
      go_wp2_with fail
      go_ret3
      exact ⟨ret3 (by rw [hr.out]) (by rw [hr.out]) (by rw [hr.out]), Below.refl _ _⟩
    · by_cases hk2 : 5 < kind
      · go_enter Tryz.func149, Tryz.ntmps149
        go_wp2_with fail
        go_ret3
        exact ⟨ret3 (by rw [hr.out]) (by rw [hr.out]) (by rw [hr.out]), Below.refl _ _⟩
      · go_enter Tryz.func149, Tryz.ntmps149
        go_wp2_with (go_at_call 118; refine (c_WordOkI _ _ _).mono ?_; rintro e w' ⟨rfl, rfl⟩)
        go_ret3
        exact ⟨ret3 (by rw [hr.out]) (by rw [hr.out]) (by rw [hr.out]), Below.refl _ _⟩

theorem c_WordOneS (kind n a : Int) (w : World) :
    Calls Tryz.prog 113 #[.int .i64 kind, .int .i64 n, .int .i64 a] w fun e w' => e = .returned (.tuple #[.int .i64 (oneR kind n a).1, .int .i64 (oneR kind n a).2.1, .bool (oneR kind n a).2.2]) ∧ w' = w := by
  by_cases h : WOk n a
  · have hd : decide (WOk n a) = true := decide_eq_true h
    have hw0 := wrap_p2 h.2.1
    have hw1 := wrap_p2m h.2.1
    have hw2 : wrap64 (2 ^ n.toNat - 1 - a) = 2 ^ n.toNat - 1 - a := by
      have := h.lt; have := h.2.2.1; have := p2_le h.2.1; have := p2_pos n.toNat; exact IntWalk.wrap64_in _ (by omega)
    have hw3 : wrap64 (-a) = -a := by have := h.lt; have := h.2.2.1; exact IntWalk.wrap64_in _ (by omega)
    have h1 := h.1; have h2 := h.2.1
    have hal : Hid _ := all_iff h
    have hob : Hid _ := ones_bound n.toNat a
    by_cases hk : 1 ≤ kind ∧ kind ≤ 5
    · rcases (by omega : kind = 1 ∨ kind = 2 ∨ kind = 3 ∨ kind = 4 ∨ kind = 5) with rfl | rfl | rfl | rfl | rfl
      · have hr : Hid (oneR 1 n a = _) := if_pos h
        go_enter Tryz.func113, Tryz.ntmps113
        go_wp2_with (first | (go_at_call 89; refine (c_WordOkS _ _ _).mono ?_; rintro e w' ⟨rfl, rfl⟩) | (go_at_call 132; refine (c_WordFromS _ _ _).mono ?_; rintro e w' ⟨rfl, rfl⟩) | (go_at_call 134; refine (c_l1Yes _ _).mono ?_; rintro e w' ⟨rfl, rfl⟩) | (go_at_call 135; refine (c_l1Ones _ _ h.2.2.1 h.1 h.2.1 _).mono ?_; rintro e w' ⟨rfl, rfl⟩))
        go_ret3
        exact ⟨ret3 (by rw [hr.out]; exact hw2) (by rw [hr.out]; rfl) (by rw [hr.out]; rfl), rfl⟩
      · have hr : Hid (oneR 2 n a = _) := if_pos h
        go_enter Tryz.func113, Tryz.ntmps113
        go_wp2_with (first | (go_at_call 89; refine (c_WordOkS _ _ _).mono ?_; rintro e w' ⟨rfl, rfl⟩) | (go_at_call 132; refine (c_WordFromS _ _ _).mono ?_; rintro e w' ⟨rfl, rfl⟩) | (go_at_call 134; refine (c_l1Yes _ _).mono ?_; rintro e w' ⟨rfl, rfl⟩) | (go_at_call 135; refine (c_l1Ones _ _ h.2.2.1 h.1 h.2.1 _).mono ?_; rintro e w' ⟨rfl, rfl⟩))
        go_ret3
        exact ⟨ret3 (by rw [hr.out]; rfl) (by rw [hr.out]; rfl) (by rw [hr.out]; rfl), rfl⟩
      · have hr : Hid (oneR 3 n a = _) := if_pos h
        go_enter Tryz.func113, Tryz.ntmps113
        go_wp2_with (first | (go_at_call 89; refine (c_WordOkS _ _ _).mono ?_; rintro e w' ⟨rfl, rfl⟩) | (go_at_call 132; refine (c_WordFromS _ _ _).mono ?_; rintro e w' ⟨rfl, rfl⟩) | (go_at_call 134; refine (c_l1Yes _ _).mono ?_; rintro e w' ⟨rfl, rfl⟩) | (go_at_call 135; refine (c_l1Ones _ _ h.2.2.1 h.1 h.2.1 _).mono ?_; rintro e w' ⟨rfl, rfl⟩))
        go_ret3
        exact ⟨ret3 (by rw [hr.out]; rfl) (by rw [hr.out]; rfl) (by rw [hr.out]; rfl), rfl⟩
      · have hr : Hid (oneR 4 n a = _) := if_pos h
        go_enter Tryz.func113, Tryz.ntmps113
        go_wp2_with (first | (go_at_call 89; refine (c_WordOkS _ _ _).mono ?_; rintro e w' ⟨rfl, rfl⟩) | (go_at_call 132; refine (c_WordFromS _ _ _).mono ?_; rintro e w' ⟨rfl, rfl⟩) | (go_at_call 134; refine (c_l1Yes _ _).mono ?_; rintro e w' ⟨rfl, rfl⟩) | (go_at_call 135; refine (c_l1Ones _ _ h.2.2.1 h.1 h.2.1 _).mono ?_; rintro e w' ⟨rfl, rfl⟩))
        go_ret3
        refine ⟨ret3 ?_ (by rw [hr.out]; rfl) (by rw [hr.out]; rfl), rfl⟩
        rw [hr.out]; show _ = (((decide (a = 2 ^ n.toNat - 1)).toNat : Nat) : Int)
        congr 2; rw [Bool.eq_iff_iff]; simp [hal.out]
      · have hr : Hid (oneR 5 n a = _) := if_pos h
        go_enter Tryz.func113, Tryz.ntmps113
        go_wp2_with (first | (go_at_call 89; refine (c_WordOkS _ _ _).mono ?_; rintro e w' ⟨rfl, rfl⟩) | (go_at_call 132; refine (c_WordFromS _ _ _).mono ?_; rintro e w' ⟨rfl, rfl⟩) | (go_at_call 134; refine (c_l1Yes _ _).mono ?_; rintro e w' ⟨rfl, rfl⟩) | (go_at_call 135; refine (c_l1Ones _ _ h.2.2.1 h.1 h.2.1 _).mono ?_; rintro e w' ⟨rfl, rfl⟩))
        go_ret3
        refine ⟨ret3 ?_ (by rw [hr.out]; rfl) (by rw [hr.out]; rfl), rfl⟩
        rw [hr.out]; exact Int.tmod_eq_emod_of_nonneg hob.out.1
    · have hr : Hid (oneR kind n a = (0, 0, false)) := by
        show oneR kind n a = (0, 0, false)
        unfold oneR; rw [if_pos h, if_neg (by omega), if_neg (by omega), if_neg (by omega), if_neg (by omega), if_neg (by omega)]
      have e1 : (kind == 1) = false := by simp; omega
      have e2 : (kind == 2) = false := by simp; omega
      have e3 : (kind == 3) = false := by simp; omega
      have e4 : (kind == 4) = false := by simp; omega
      have e5 : (kind == 5) = false := by simp; omega
      clear h hk
      go_enter Tryz.func113, Tryz.ntmps113
      go_wp2_with (go_at_call 89; refine (c_WordOkS _ _ _).mono ?_; rintro e w' ⟨rfl, rfl⟩)
      go_ret3
      exact ⟨ret3 (by rw [hr.out]) (by rw [hr.out]) (by rw [hr.out]), rfl⟩
  · have hr : Hid (oneR kind n a = (0, 0, false)) := by show oneR kind n a = (0, 0, false); unfold oneR; rw [if_neg h]
    have hd : decide (WOk n a) = false := decide_eq_false h
    clear h
    go_enter Tryz.func113, Tryz.ntmps113
    go_wp2_with (go_at_call 89; refine (c_WordOkS _ _ _).mono ?_; rintro e w' ⟨rfl, rfl⟩)
    go_ret3
    exact ⟨ret3 (by rw [hr.out]) (by rw [hr.out]) (by rw [hr.out]), rfl⟩

end Go.Proofs.YtbkcecilbpngcaaGreat
