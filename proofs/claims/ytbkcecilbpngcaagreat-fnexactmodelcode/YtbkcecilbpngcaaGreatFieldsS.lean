/-
  Whether a node's fields are as its kind asks: the model.
-/
import Derived.Test.YtbkcecilbpngcaaGreatRows
import Derived.Test.YtbkcecilbpngcaaGreatPaA
import Derived.Test.YtbkcecilbpngcaaGreatNodeM
import Derived.Test.YtbkcecilbpngcaaGreatNames
import Derived.WalkKit
import Derived.ProofKit
import Derived.OpenShut
import Derived.WalkSpells
import Derived.WalkLawsBesides
import Derived.Outline
import Derived.BigQuiet
import Derived.Handy
import Derived.LoopTactic
import Derived.Deep.Light
namespace Go.Proofs.YtbkcecilbpngcaaGreat
open Go.ChangeShapes Go.WideShapes Go.ChangeAt Go.RowKit
set_option linter.unusedVariables false

/-- All of a node's fields are as its kind asks. -/
def fldOk (len : Nat) (x : ND) : Prop := 0 ≤ pcN x.kind ∧ ptsOk len x ∧ numOk x ∧ nmOk x = true
instance (len : Nat) (x : ND) : Decidable (fldOk len x) := by unfold fldOk; infer_instance

theorem pts_next {len : Nat} {x : ND} {j : Int} (q : Nat) (hq : j = q) (h : ∀ t : Nat, (t : Int) < j → ptOk len x t) (hj : ptOk len x q) : ∀ t : Nat, (t : Int) < j + 1 → ptOk len x t := by
  intro t ht
  by_cases e : t = q
  · subst e; exact hj
  · exact h t (by omega)
theorem pts_all {len : Nat} {x : ND} (h : ∀ t : Nat, (t : Int) < 3 → ptOk len x t) : ptsOk len x := ⟨h 0 (by omega), h 1 (by omega), h 2 (by omega)⟩
theorem fld_no_pt {len : Nat} {x : ND} (q : Nat) (hq : q ≤ 2) (h : ¬ ptOk len x q) : fldOk len x = False := by
  refine eq_false fun ⟨_, hp, _⟩ => ?_
  obtain ⟨h0, h1, h2⟩ := hp
  rcases (by omega : q = 0 ∨ q = 1 ∨ q = 2) with rfl | rfl | rfl <;> contradiction
theorem pt_in {len : Nat} {x : ND} {q : Nat} (h : (q : Int) < pcN x.kind) (h1 : 0 ≤ partAt x q) (h2 : partAt x q < len) : ptOk len x q := by unfold ptOk; rw [if_pos h]; exact ⟨h1, h2⟩
theorem pt_out {len : Nat} {x : ND} {q : Nat} (h : (q : Int) < pcN x.kind) (h1 : partAt x q < 0 ∨ len ≤ partAt x q) : ¬ ptOk len x q := by unfold ptOk; rw [if_pos h]; omega
theorem pt_zero {len : Nat} {x : ND} {q : Nat} (h : ¬ (q : Int) < pcN x.kind) (h1 : partAt x q = 0) : ptOk len x q := by unfold ptOk; rw [if_neg h]; exact h1
theorem pt_nonzero {len : Nat} {x : ND} {q : Nat} (h : ¬ (q : Int) < pcN x.kind) (h1 : partAt x q ≠ 0) : ¬ ptOk len x q := by unfold ptOk; rw [if_neg h]; exact h1
theorem dec_no {p : Prop} [Decidable p] (h : p = False) : decide p = false := decide_eq_false (by rw [h]; exact id)

theorem fld_eval {len : Nat} (x : ND) (hp : 0 ≤ pcN x.kind) (h : ptsOk len x) : decide (fldOk len x) = (decide (numOk x) && nmOk x) := by
  unfold fldOk; simp [hp, h]
theorem nameB_some {s : ByteArray} (h : nameB s = true) : s.data.toList.isEmpty = false := by
  unfold nameB at h
  simp only [Bool.and_eq_true, decide_eq_true_eq] at h
  have h1 : 1 ≤ s.size := h.1.1.1
  have hl : 0 < s.data.toList.length := by simp; omega
  cases e : s.data.toList with
  | nil => rw [e] at hl; simp at hl
  | cons _ _ => rfl

set_option maxHeartbeats 2000000 in
theorem c_l2Fields {a : Option Addr} {len cap : Nat} (hlen : len ≤ maxLen) (x : ND) (hx : x.name.size ≤ maxLen) (w : World) :
    Calls Tryz.prog 87 #[.slice a len cap, .agg x.cells.toArray] w fun e w' => e = .returned (.bool (decide (fldOk len x))) ∧ Below w.heap.size w w' := by
  unfold maxLen at hlen
  by_cases hp : 0 ≤ pcN x.kind
  · obtain ⟨k, pa, pb, pc, n, m, si, sw, nm⟩ := x
    simp only [ND.cells] at *
    go_enter Tryz.func87, Tryz.ntmps87
    go_wp2_with (first | (go_at_call 85; refine (c_l2Parts _ _).mono ?_; rintro e w' ⟨rfl, rfl⟩))
    go_loop [7] (fun i => ∃ j : Int, 0 ≤ j ∧ j ≤ 3 ∧ i = .int .i64 j ∧ ∀ t : Nat, (t : Int) < j → ptOk len ⟨k, pa, pb, pc, n, m, si, sw, nm⟩ t) (fun i => (3 - intOf i).toNat)
    case atStart => exact ⟨0, by omega, by omega, rfl, by intro t h; omega⟩
    case round =>
      obtain ⟨j, hj0, hj3, rfl, hpt⟩ := hrel
      rcases (by omega : j = 0 ∨ j = 1 ∨ j = 2 ∨ j = 3) with rfl | rfl | rfl | rfl
      · have HP : Hid _ := hpt
        clear hpt
        by_cases hlt : (0 : Int) < pcN k
        · by_cases hin : 0 ≤ pa ∧ pa < len
          · have i1 := hin.1; have i2 := hin.2
            clear hin
            go_wp2_with (first | (go_at_call 59; refine (c_l1In_t _ _ _ (by omega) (by omega) _).mono ?_; rintro e w' ⟨rfl, rfl⟩))
            go_round
            case rel => exact ⟨0 + 1, by omega, by omega, rfl, pts_next 0 rfl HP.out (pt_in (x := ⟨k, pa, pb, pc, n, m, si, sw, nm⟩) hlt i1 i2)⟩
            case measure => simp [intOf]
          · have i1 : pa < 0 ∨ len ≤ pa := by omega
            clear hin
            go_wp2_with (first | (go_at_call 59; refine (c_l1In_f _ _ _ (by omega) _).mono ?_; rintro e w' ⟨rfl, rfl⟩))
            go_ret
            exact ⟨ret_bool (dec_no (fld_no_pt 0 (by omega) (pt_out (x := ⟨k, pa, pb, pc, n, m, si, sw, nm⟩) hlt i1))).symm, by go_grown⟩
        · have d1 : decide ((0 : Int) < pcN k) = false := by simp; omega
          have d2 : pcN k ≤ 0 := by omega
          by_cases hz : pa = 0
          · have z1 : (pa != 0) = false := by simpa using hz
            have Hz : Hid (pa = 0) := hz
            clear hz
            go_wp2
            go_round
            case rel => exact ⟨0 + 1, by omega, by omega, rfl, pts_next 0 rfl HP.out (pt_zero (x := ⟨k, pa, pb, pc, n, m, si, sw, nm⟩) (Int.not_lt.mpr d2) Hz.out)⟩
            case measure => simp [intOf]
          · have z1 : (pa != 0) = true := by simpa using hz
            go_wp2
            go_ret
            exact ⟨ret_bool (dec_no (fld_no_pt 0 (by omega) (pt_nonzero (x := ⟨k, pa, pb, pc, n, m, si, sw, nm⟩) (Int.not_lt.mpr d2) hz))).symm, by go_grown⟩
      · have HP : Hid _ := hpt
        clear hpt
        by_cases hlt : (1 : Int) < pcN k
        · by_cases hin : 0 ≤ pb ∧ pb < len
          · have i1 := hin.1; have i2 := hin.2
            clear hin
            go_wp2_with (first | (go_at_call 59; refine (c_l1In_t _ _ _ (by omega) (by omega) _).mono ?_; rintro e w' ⟨rfl, rfl⟩))
            go_round
            case rel => exact ⟨1 + 1, by omega, by omega, rfl, pts_next 1 rfl HP.out (pt_in (x := ⟨k, pa, pb, pc, n, m, si, sw, nm⟩) hlt i1 i2)⟩
            case measure => simp [intOf]
          · have i1 : pb < 0 ∨ len ≤ pb := by omega
            clear hin
            go_wp2_with (first | (go_at_call 59; refine (c_l1In_f _ _ _ (by omega) _).mono ?_; rintro e w' ⟨rfl, rfl⟩))
            go_ret
            exact ⟨ret_bool (dec_no (fld_no_pt 1 (by omega) (pt_out (x := ⟨k, pa, pb, pc, n, m, si, sw, nm⟩) hlt i1))).symm, by go_grown⟩
        · have d1 : decide ((1 : Int) < pcN k) = false := by simp; omega
          have d2 : pcN k ≤ 1 := by omega
          by_cases hz : pb = 0
          · have z1 : (pb != 0) = false := by simpa using hz
            have Hz : Hid (pb = 0) := hz
            clear hz
            go_wp2
            go_round
            case rel => exact ⟨1 + 1, by omega, by omega, rfl, pts_next 1 rfl HP.out (pt_zero (x := ⟨k, pa, pb, pc, n, m, si, sw, nm⟩) (Int.not_lt.mpr d2) Hz.out)⟩
            case measure => simp [intOf]
          · have z1 : (pb != 0) = true := by simpa using hz
            go_wp2
            go_ret
            exact ⟨ret_bool (dec_no (fld_no_pt 1 (by omega) (pt_nonzero (x := ⟨k, pa, pb, pc, n, m, si, sw, nm⟩) (Int.not_lt.mpr d2) hz))).symm, by go_grown⟩
      · have HP : Hid _ := hpt
        clear hpt
        by_cases hlt : (2 : Int) < pcN k
        · by_cases hin : 0 ≤ pc ∧ pc < len
          · have i1 := hin.1; have i2 := hin.2
            clear hin
            go_wp2_with (first | (go_at_call 59; refine (c_l1In_t _ _ _ (by omega) (by omega) _).mono ?_; rintro e w' ⟨rfl, rfl⟩))
            go_round
            case rel => exact ⟨2 + 1, by omega, by omega, rfl, pts_next 2 rfl HP.out (pt_in (x := ⟨k, pa, pb, pc, n, m, si, sw, nm⟩) hlt i1 i2)⟩
            case measure => simp [intOf]
          · have i1 : pc < 0 ∨ len ≤ pc := by omega
            clear hin
            go_wp2_with (first | (go_at_call 59; refine (c_l1In_f _ _ _ (by omega) _).mono ?_; rintro e w' ⟨rfl, rfl⟩))
            go_ret
            exact ⟨ret_bool (dec_no (fld_no_pt 2 (by omega) (pt_out (x := ⟨k, pa, pb, pc, n, m, si, sw, nm⟩) hlt i1))).symm, by go_grown⟩
        · have d1 : decide ((2 : Int) < pcN k) = false := by simp; omega
          have d2 : pcN k ≤ 2 := by omega
          by_cases hz : pc = 0
          · have z1 : (pc != 0) = false := by simpa using hz
            have Hz : Hid (pc = 0) := hz
            clear hz
            go_wp2
            go_round
            case rel => exact ⟨2 + 1, by omega, by omega, rfl, pts_next 2 rfl HP.out (pt_zero (x := ⟨k, pa, pb, pc, n, m, si, sw, nm⟩) (Int.not_lt.mpr d2) Hz.out)⟩
            case measure => simp [intOf]
          · have z1 : (pc != 0) = true := by simpa using hz
            go_wp2
            go_ret
            exact ⟨ret_bool (dec_no (fld_no_pt 2 (by omega) (pt_nonzero (x := ⟨k, pa, pb, pc, n, m, si, sw, nm⟩) (Int.not_lt.mpr d2) hz))).symm, by go_grown⟩
      · have HP : Hid (ptsOk len ⟨k, pa, pb, pc, n, m, si, sw, nm⟩) := pts_all hpt
        clear hpt
        by_cases hk : k = 35
        · subst hk
          by_cases hn : nameB nm = true
          · go_wp2_with (first | (go_at_call 108; refine (c_l2Name _ hx _).mono ?_; rintro e w' ⟨rfl, rfl⟩))
            all_goals (go_ret; refine ⟨ret_bool ?_, by go_grown⟩; rw [fld_eval _ hp HP.out]; clear HP hp; go_light; (simp_all [numOk, ncN, nmOk, namedB]) <;> (intros; (repeat' split) <;> (first | omega | simp_all)))
          · have hn' : nameB nm = false := by simpa using hn
            clear hn
            go_wp2_with (first | (go_at_call 108; refine (c_l2Name _ hx _).mono ?_; rintro e w' ⟨rfl, rfl⟩))
            all_goals (go_ret; refine ⟨ret_bool ?_, by go_grown⟩; rw [fld_eval _ hp HP.out]; clear HP hp; go_light; (simp_all [numOk, ncN, nmOk, namedB]) <;> (intros; (repeat' split) <;> (first | omega | simp_all)))
        · by_cases hk' : k = 36
          · subst hk'
            by_cases hn : nameB nm = true
            · go_wp2_with (first | (go_at_call 108; refine (c_l2Name _ hx _).mono ?_; rintro e w' ⟨rfl, rfl⟩))
              all_goals (go_ret; refine ⟨ret_bool ?_, by go_grown⟩; rw [fld_eval _ hp HP.out]; clear HP hp; go_light; (simp_all [numOk, ncN, nmOk, namedB]) <;> (intros; (repeat' split) <;> (first | omega | simp_all)))
            · have hn' : nameB nm = false := by simpa using hn
              clear hn
              go_wp2_with (first | (go_at_call 108; refine (c_l2Name _ hx _).mono ?_; rintro e w' ⟨rfl, rfl⟩))
              all_goals (go_ret; refine ⟨ret_bool ?_, by go_grown⟩; rw [fld_eval _ hp HP.out]; clear HP hp; go_light; (simp_all [numOk, ncN, nmOk, namedB]) <;> (intros; (repeat' split) <;> (first | omega | simp_all)))
          · have k5 : (k == 35) = false := by simpa using hk
            have k6 : (k == 36) = false := by simpa using hk'
            by_cases hn : nameB nm = true
            · have hz : nm.data.toList.isEmpty = false := nameB_some hn
              go_wp2_with (first | (go_at_call 108; refine (c_l2Name _ hx _).mono ?_; rintro e w' ⟨rfl, rfl⟩))
              all_goals (go_ret; refine ⟨ret_bool ?_, by go_grown⟩; rw [fld_eval _ hp HP.out]; clear HP hp; go_light; (simp_all [numOk, ncN, nmOk, namedB]) <;> (intros; (repeat' split) <;> (first | omega | simp_all)))
            · have hn' : nameB nm = false := by simpa using hn
              clear hn
              by_cases hz : nm.data.toList.isEmpty = true
              · have hz2 : nm.toList = [] := by rw [Go.ByteArray.toList_eq]; exact List.isEmpty_iff.mp hz
                have hz' : (!nm.toList.isEmpty) = false := by rw [hz2]; rfl
                go_wp2_with (first | (go_at_call 108; refine (c_l2Name _ hx _).mono ?_; rintro e w' ⟨rfl, rfl⟩))
                all_goals (go_ret; refine ⟨ret_bool ?_, by go_grown⟩; rw [fld_eval _ hp HP.out]; clear HP hp; go_light; (simp_all [numOk, ncN, nmOk, namedB]) <;> (intros; (repeat' split) <;> (first | omega | simp_all)))
              · have hz1 : nm.data.toList.isEmpty = false := by simpa using hz
                have hz2 : nm.toList ≠ [] := by rw [Go.ByteArray.toList_eq]; intro h; rw [h] at hz1; simp at hz1
                have hz' : (!nm.toList.isEmpty) = true := by simpa using hz2
                clear hz
                go_wp2_with (first | (go_at_call 108; refine (c_l2Name _ hx _).mono ?_; rintro e w' ⟨rfl, rfl⟩))
                all_goals (go_ret; refine ⟨ret_bool ?_, by go_grown⟩; rw [fld_eval _ hp HP.out]; clear HP hp; go_light; (simp_all [numOk, ncN, nmOk, namedB]) <;> (intros; (repeat' split) <;> (first | omega | simp_all)))
  · have hn : ¬ fldOk len x := fun h => hp h.1
    have hn' : Hid _ := hn
    clear hn
    obtain ⟨k, pa, pb, pc, n, m, si, sw, nm⟩ := x
    simp only [ND.cells] at *
    go_enter Tryz.func87, Tryz.ntmps87
    go_wp2_with (first | (go_at_call 85; refine (c_l2Parts _ _).mono ?_; rintro e w' ⟨rfl, rfl⟩))
    go_ret
    exact ⟨ret_bool (decide_eq_false hn'.out).symm, by go_grown⟩
end Go.Proofs.YtbkcecilbpngcaaGreat
