/-
  Whether a text is a name: the model and the program.
-/
import Derived.Test.YtbkcecilbpngcaaGreatRows
import Derived.Test.YtbkcecilbpngcaaGreatPaA
import Derived.Test.YtbkcecilbpngcaaGreatNodeM
import Derived.WalkKit
import Derived.ProofKit
import Derived.OpenShut
import Derived.WalkSpells
import Derived.WalkLawsBesides
import Derived.Outline
import Derived.BigQuiet
import Derived.Handy
import Derived.LoopTactic
import Derived.Deep.Light
namespace Go.Proofs.YtbkcecilbpngcaaGreat
open Go.ChangeShapes Go.WideShapes Go.ChangeAt Go.RowKit
set_option linter.unusedVariables false

theorem c_l1In_t (n lo hi : Int) (h1 : lo ≤ n) (h2 : n ≤ hi) (w : World) :
    Calls Tryz.prog 59 #[.int .i64 n, .int .i64 lo, .int .i64 hi] w fun e w' => e = .returned (.bool true) ∧ w = w' :=
  (c_l1In n lo hi w).mono fun e w' ⟨he, hw⟩ => ⟨by rw [he]; simp [h1, h2], hw.symm⟩
theorem c_l1In_f (n lo hi : Int) (h : n < lo ∨ hi < n) (w : World) :
    Calls Tryz.prog 59 #[.int .i64 n, .int .i64 lo, .int .i64 hi] w fun e w' => e = .returned (.bool false) ∧ w = w' :=
  (c_l1In n lo hi w).mono fun e w' ⟨he, hw⟩ => ⟨by rw [he]; refine ret_bool ?_; simp; omega, hw.symm⟩

theorem take_snoc (s : ByteArray) (k : Nat) (h : k < s.size) : s.data.toList.take (k + 1) = s.data.toList.take k ++ [s[k]] := by
  rw [List.take_succ_eq_append_getElem (by simpa using h)]; rfl
theorem all_take_snoc (s : ByteArray) (k : Nat) (h : k < s.size) (p : UInt8 → Bool) : (s.data.toList.take (k + 1)).all p = ((s.data.toList.take k).all p && p s[k]) := by
  rw [take_snoc s k h, List.all_append]; simp
theorem all_of_take (s : ByteArray) (p : UInt8 → Bool) (h : (s.data.toList.take s.size).all p = true) : s.data.toList.all p = true := by
  rwa [List.take_of_length_le (by simp)] at h
theorem all_not (s : ByteArray) (k : Nat) (h : k < s.size) (p : UInt8 → Bool) (hp : p s[k] = false) : s.data.toList.all p = false := by
  rw [List.all_eq_false]; exact ⟨s[k], by simp [ByteArray.getElem_eq_getElem_data], by simpa using hp⟩
theorem head_at (s : ByteArray) (h : 0 < s.size) : headB s = lowB (s[0].toNat) := by
  have hl : 0 < s.data.toList.length := by simpa using h
  unfold headB
  rw [List.getD_eq_getElem?_getD, List.getElem?_eq_getElem hl]; rfl

theorem byte_class (c : Int) : c < 48 ∨ (48 ≤ c ∧ c ≤ 57) ∨ (57 < c ∧ c < 97) ∨ (97 ≤ c ∧ c ≤ 122) ∨ 122 < c := by omega
theorem good_no {c : Int} (h : c < 48 ∨ (57 < c ∧ c < 97) ∨ 122 < c) : goodB c = false := by unfold goodB lowB digB; simp; omega
theorem good_yes {c : Int} (h : (48 ≤ c ∧ c ≤ 57) ∨ (97 ≤ c ∧ c ≤ 122)) : (true && goodB c) = true := by unfold goodB lowB digB; simp; omega

theorem head_class (c : Int) : c < 97 ∨ (97 ≤ c ∧ c ≤ 122) ∨ 122 < c := by omega
theorem low_no {c : Int} (h : c < 97 ∨ 122 < c) : lowB c = false := by unfold lowB; simp; omega
theorem low_yes {c : Int} (h : 97 ≤ c) (h' : c ≤ 122) : lowB c = true := by unfold lowB; simp; omega
theorem c_l2Name (s : ByteArray) (hs : s.size ≤ maxLen) (w : World) :
    Calls Tryz.prog 108 #[.string s] w fun e w' => e = .returned (.bool (nameB s)) ∧ w = w' := by
  unfold maxLen at hs
  by_cases h : 1 ≤ s.size ∧ s.size ≤ 8
  · have h1 := h.1; have h2 := h.2
    have hn' : nameB s = (lowB s[0].toNat && bytesB s) := by unfold nameB; rw [head_at s h1]; simp [h]
    have hn : Hid _ := hn'
    clear h hn'
    rcases head_class (s[0].toNat : Int) with hh | ⟨hh, hh'⟩ | hh
    · go_enter Tryz.func108, Tryz.ntmps108
      go_wp2_with (go_at_call 59; refine (c_l1In_t _ _ _ (by omega) (by omega) _).mono ?_; rintro e w' ⟨rfl, rfl⟩)
      go_ret
      exact ⟨ret_bool (by go_light; rw [hn.out, low_no (.inl hh)]; rfl), rfl⟩
    · have qa : decide ((s[0].toNat : Int) < 97) = false := by simp; omega
      have qb : decide (122 < (s[0].toNat : Int)) = false := by simp; omega
      go_enter Tryz.func108, Tryz.ntmps108
      go_wp2_with (go_at_call 59; refine (c_l1In_t _ _ _ (by omega) (by omega) _).mono ?_; rintro e w' ⟨rfl, rfl⟩)
      go_loop [3] (fun i => ∃ k : Nat, k ≤ s.size ∧ i = .int .i64 k ∧ (s.data.toList.take k).all (fun c => goodB c.toNat) = true) (fun i => s.size - (intOf i).toNat)
      case atStart => exact ⟨0, Nat.zero_le _, rfl, rfl⟩
      case round =>
        obtain ⟨k, hk, rfl, ha⟩ := hrel
        have HA : Hid _ := ha
        clear ha
        by_cases hlt : k < s.size
        · have hts : Hid _ := all_take_snoc s k hlt (fun c => goodB c.toNat)
          have hno : Hid _ := all_not s k hlt (fun c => goodB c.toNat)
          rcases byte_class (s[k].toNat : Int) with hc | ⟨hc, hd⟩ | ⟨hc, hd⟩ | ⟨hc, hd⟩ | hc
          · go_wp2
            go_ret
            refine ⟨ret_bool ?_, rfl⟩
            go_light
            have := hno.out (good_no (.inl hc))
            rw [hn.out]; unfold bytesB; rw [this]; simp
          · go_wp2
            go_round
            case rel => exact ⟨k + 1, by omega, by go_num, by go_light; rw [hts.out, HA.out]; exact good_yes (.inl ⟨hc, hd⟩)⟩
            case measure => simp [intOf]; omega
          · have q1 : decide ((s[k].toNat : Int) ≤ 57) = false := by simp; omega
            go_wp2
            go_ret
            refine ⟨ret_bool ?_, rfl⟩
            go_light
            have := hno.out (good_no (.inr (.inl ⟨hc, hd⟩)))
            rw [hn.out]; unfold bytesB; rw [this]; simp
          · go_wp2
            go_round
            case rel => exact ⟨k + 1, by omega, by go_num, by go_light; rw [hts.out, HA.out]; exact good_yes (.inr ⟨hc, hd⟩)⟩
            case measure => simp [intOf]; omega
          · have q1 : decide ((s[k].toNat : Int) ≤ 57) = false := by simp; omega
            have q2 : decide ((s[k].toNat : Int) ≤ 122) = false := by simp; omega
            go_wp2
            go_ret
            refine ⟨ret_bool ?_, rfl⟩
            go_light
            have := hno.out (good_no (.inr (.inr hc)))
            rw [hn.out]; unfold bytesB; rw [this]; simp
        · have hke : k = s.size := by omega
          subst hke
          have hb : Hid (bytesB s = true) := all_of_take s _ HA.out
          clear HA
          go_wp2
          go_ret
          exact ⟨ret_bool (by go_light; rw [hn.out, hb.out]; rw [low_yes hh hh']; rfl), rfl⟩
    · have qa : decide ((s[0].toNat : Int) < 97) = false := by simp; omega
      go_enter Tryz.func108, Tryz.ntmps108
      go_wp2_with (go_at_call 59; refine (c_l1In_t _ _ _ (by omega) (by omega) _).mono ?_; rintro e w' ⟨rfl, rfl⟩)
      go_ret
      exact ⟨ret_bool (by go_light; rw [hn.out, low_no (.inr hh)]; rfl), rfl⟩
  · have hn' : nameB s = false := by unfold nameB; simp [h]
    have hn : Hid _ := hn'
    clear hn'
    go_enter Tryz.func108, Tryz.ntmps108
    go_wp2_with (go_at_call 59; refine (c_l1In_f _ _ _ (by omega) _).mono ?_; rintro e w' ⟨rfl, rfl⟩)
    go_ret
    exact ⟨ret_bool hn.out.symm, rfl⟩

theorem nameB_no_digit {s : ByteArray} (h1 : 1 ≤ s.size) (h2 : s.size ≤ 8) (hd : digB s[0].toNat = true) : nameB s = false := by
  unfold nameB; rw [head_at s h1]
  unfold digB at hd; simp at hd
  unfold lowB; simp; intros; omega
theorem nameB_bytes {s : ByteArray} (h1 : 1 ≤ s.size) (h2 : s.size ≤ 8) (hd : digB s[0].toNat = false) : nameB s = bytesB s := by
  unfold nameB; rw [head_at s h1]
  by_cases hb : bytesB s = true
  · have hg : goodB s[0].toNat = true := by
      unfold bytesB at hb; rw [List.all_eq_true] at hb
      exact hb s[0] (by simp [ByteArray.getElem_eq_getElem_data])
    unfold goodB at hg; rw [hd] at hg
    rw [hb]; simp at hg; simp [hg, h1, h2]
  · simp at hb; rw [hb]; simp
theorem c_nameOk (s : ByteArray) (hs : s.size ≤ maxLen) (w : World) :
    Calls Tryz.prog 117 #[.string s] w fun e w' => e = .returned (.bool (nameB s)) ∧ w = w' := by
  unfold maxLen at hs
  by_cases h : 1 ≤ s.size ∧ s.size ≤ 8
  · have h1 := h.1; have h2 := h.2
    clear h
    by_cases hd : digB s[0].toNat = true
    · have hn' := nameB_no_digit h1 h2 hd
      have hn : Hid _ := hn'
      clear hn'
      go_enter Tryz.func117, Tryz.ntmps117
      go_wp2_with (go_at_call 143; refine (c_isDigit _ _).mono ?_; rintro e w' ⟨rfl, rfl⟩)
      go_ret
      exact ⟨ret_bool hn.out.symm, rfl⟩
    · have hd' : digB s[0].toNat = false := by simpa using hd
      have hn' := nameB_bytes h1 h2 hd'
      have hn : Hid _ := hn'
      clear hn' hd
      go_enter Tryz.func117, Tryz.ntmps117
      go_wp2_with (go_at_call 143; refine (c_isDigit _ _).mono ?_; rintro e w' ⟨rfl, rfl⟩)
      go_loop [19] (fun i => ∃ k : Nat, k ≤ s.size ∧ i = .int .i64 k ∧ (s.data.toList.take k).all (fun c => goodB c.toNat) = true) (fun i => s.size - (intOf i).toNat)
      case atStart => exact ⟨0, Nat.zero_le _, rfl, rfl⟩
      case round =>
        obtain ⟨k, hk, rfl, ha⟩ := hrel
        have HA : Hid _ := ha
        clear ha
        by_cases hlt : k < s.size
        · have hts : Hid _ := all_take_snoc s k hlt (fun c => goodB c.toNat)
          have hno : Hid _ := all_not s k hlt (fun c => goodB c.toNat)
          by_cases hl : lowB s[k].toNat = true
          · go_wp2_with (first | (go_at_call 143; refine (c_isDigit _ _).mono ?_; rintro e w' ⟨rfl, rfl⟩) | (go_at_call 144; refine (c_isLetter _ _).mono ?_; rintro e w' ⟨rfl, rfl⟩))
            go_round
            case rel => exact ⟨k + 1, by omega, by go_num, by go_light; rw [hts.out, HA.out]; unfold goodB; rw [hl]; rfl⟩
            case measure => simp [intOf]; omega
          · have hl' : lowB s[k].toNat = false := by simpa using hl
            clear hl
            by_cases hg : digB s[k].toNat = true
            · go_wp2_with (first | (go_at_call 143; refine (c_isDigit _ _).mono ?_; rintro e w' ⟨rfl, rfl⟩) | (go_at_call 144; refine (c_isLetter _ _).mono ?_; rintro e w' ⟨rfl, rfl⟩))
              go_round
              case rel => exact ⟨k + 1, by omega, by go_num, by go_light; rw [hts.out, HA.out]; unfold goodB; rw [hl', hg]; rfl⟩
              case measure => simp [intOf]; omega
            · have hg' : digB s[k].toNat = false := by simpa using hg
              clear hg
              go_wp2_with (first | (go_at_call 143; refine (c_isDigit _ _).mono ?_; rintro e w' ⟨rfl, rfl⟩) | (go_at_call 144; refine (c_isLetter _ _).mono ?_; rintro e w' ⟨rfl, rfl⟩))
              go_ret
              refine ⟨ret_bool ?_, rfl⟩
              go_light
              have := hno.out (by unfold goodB; rw [hl', hg']; rfl)
              rw [hn.out]; unfold bytesB; rw [this]
        · have hke : k = s.size := by omega
          subst hke
          have hb : Hid (bytesB s = true) := all_of_take s _ HA.out
          clear HA
          go_wp2
          go_ret
          exact ⟨ret_bool (by go_light; rw [hn.out, hb.out]), rfl⟩
  · have hn' : nameB s = false := by unfold nameB; simp [h]
    have hn : Hid _ := hn'
    clear hn'
    by_cases h0 : s.size < 1
    · go_enter Tryz.func117, Tryz.ntmps117
      go_wp2_with fail
      go_ret
      exact ⟨ret_bool hn.out.symm, rfl⟩
    · have h8 : 8 < s.size := by omega
      clear h
      go_enter Tryz.func117, Tryz.ntmps117
      go_wp2_with fail
      go_ret
      exact ⟨ret_bool hn.out.symm, rfl⟩
end Go.Proofs.YtbkcecilbpngcaaGreat
