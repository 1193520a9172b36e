/-
  Marks in a model.
-/
import Derived.Test.YtdfcjfielkpkiaaGreatRows
import Derived.Test.YtdfcjfielkpkiaaGreatPaA
import Derived.Test.YtdfcjfielkpkiaaGreatNodeL
import Derived.Test.YtdfcjfielkpkiaaGreatPaG
import Derived.Test.YtdfcjfielkpkiaaGreatResP
import Derived.Test.YtdfcjfielkpkiaaGreatModD
import Derived.Test.YtdfcjfielkpkiaaGreatModA
import Derived.Test.YtdfcjfielkpkiaaGreatModB
import Derived.Test.YtdfcjfielkpkiaaGreatModE
import Derived.Test.YtdfcjfielkpkiaaGreatPaF
import Derived.WalkKit
import Derived.ProofKit
import Derived.OpenShut
import Derived.WalkSpells
import Derived.WalkLawsBesides
import Derived.Outline
import Derived.BigQuiet
import Derived.Handy
import Derived.LoopTactic
import Derived.Deep.Light
import Derived.Deep.RegionWith
import Derived.Deep.RegionHeld3
import Derived.Deep.DeepCutAuto
import Derived.Lib.Hide
import Derived.Deep.MidRow
import Derived.Laws.BytesArg
namespace Go.Proofs.YtdfcjfielkpkiaaGreat
open Go.ChangeShapes Go.WideShapes Go.ChangeAt Go.RowKit
set_option linter.unusedVariables false
set_option maxRecDepth 100000


theorem Room.below {g n : Nat} {w w' : World} (h : Room w g n) (hb : Below w.heap.size w w') : Room w' g n := ⟨Nat.lt_of_lt_of_le h.1 hb.size, there_below h.2 hb h.1⟩
theorem Room.set {g n : Nat} {w : World} (h : Room w g n) {b : Nat} (i : Nat) (v : Value) : Room (w.setCell ⟨b, i, none⟩ v) g n :=
  ⟨by simpa using h.1, (World.there_setCells h.2 b i [v])⟩
/-- Of what was there the blocks of T alone may have turned. -/
structure Touch (T : Nat → Prop) (w w' : World) : Prop where
  os : w'.os = w.os
  tape : w'.tape = w.tape
  output : w'.output = w.output
  size : w.heap.size ≤ w'.heap.size
  block : ∀ k, k < w.heap.size → ¬ T k → w'.heap[k]? = w.heap[k]?
  room : ∀ g n, Room w g n → Room w' g n
theorem Touch.refl (T : Nat → Prop) (w : World) : Touch T w w := ⟨rfl, rfl, rfl, Nat.le_refl _, fun _ _ _ => rfl, fun _ _ h => h⟩
theorem Touch.below {T : Nat → Prop} {w wb w' : World} (h : Touch T w wb) (hb : Below wb.heap.size wb w') : Touch T w w' :=
  ⟨hb.os.trans h.os, hb.tape.trans h.tape, hb.output.trans h.output, Nat.le_trans h.size hb.size, fun k hk hg => (hb.block k (Nat.lt_of_lt_of_le hk h.size)).trans (h.block k hk hg), fun g n hr => (h.room g n hr).below hb⟩
theorem Touch.trans {T : Nat → Prop} {w wb w' : World} (h : Touch T w wb) (k : Touch T wb w') : Touch T w w' :=
  ⟨k.os.trans h.os, k.tape.trans h.tape, k.output.trans h.output, Nat.le_trans h.size k.size, fun i hi hg => (k.block i (Nat.lt_of_lt_of_le hi h.size) hg).trans (h.block i hi hg), fun g n hr => k.room g n (h.room g n hr)⟩
theorem Touch.set {T : Nat → Prop} {g : Nat} (hT : T g) {w wb : World} (h : Touch T w wb) (i : Nat) (v : Value) : Touch T w (wb.setCell ⟨g, i, none⟩ v) :=
  ⟨h.os, h.tape, h.output, by simpa using h.size, fun k hk hg => (heap_setCell_other _ _ _ _ (fun e => hg (by have e' : k = g := e; rw [e']; exact hT))).trans (h.block k hk hg), fun g' n hr => (h.room g' n hr).set _ _⟩
/-- What lies below all blocks of T is as it was. -/
theorem Touch.belowAt {T : Nat → Prop} {B : Nat} {w w' : World} (h : Touch T w w') (hB : B ≤ w.heap.size) (hT : ∀ k, T k → B ≤ k) : Below B w w' :=
  ⟨h.os, h.tape, h.output, h.size, fun k hk => h.block k (Nat.lt_of_lt_of_le hk hB) (fun ht => by have := hT k ht; omega)⟩
theorem room_at {w : World} {g n j : Nat} (h : Room w g n) (hj : j < n) : (∃ v, w.cell? ⟨g, j, none⟩ = some v) ∧ w.frozen? ⟨g, j, none⟩ = false := by
  have := h.2 j hj
  rw [Nat.zero_add] at this
  exact ⟨Option.isSome_iff_exists.1 this.1, this.2⟩
theorem cv1 (wr : World) (x : Int) : (convert 178 9 (.slice (some ⟨wr.heap.size, 0, none⟩) 1 1)).run Tryz.prog (wr.alloc (.cells #[.int .u8 x] 5)) = .ok (.string (strOfNums [x])) (wr.alloc (.cells #[.int .u8 x] 5)) := by
  refine run_convert_bytes_arg _ 178 5 Tryz.underlying178 Tryz.underlying5 wr.heap.size 0 1 1 [x] rfl (fun i hi => ?_) 9 Tryz.underlying9
  obtain rfl : i = 0 := by omega
  exact World.cell?_alloc_new _ _ _ _
theorem digits_bound {n : Int} {m : Nat} (h : n * 10 ^ m ≤ 9223372036854775807) (hn : 0 < n) : m ≤ 18 := by
  rcases Nat.lt_or_ge 18 m with h1 | h1
  · exfalso
    obtain ⟨d, rfl⟩ : ∃ d, m = 19 + d := ⟨m - 19, by omega⟩
    have h2 : (1 : Int) ≤ 10 ^ d := Int.pow_pos (by decide)
    have h3 : (10 : Int) ^ (19 + d) = 10000000000000000000 * 10 ^ d := by rw [Int.pow_add]; rfl
    rw [h3] at h
    have h4 : n * (10000000000000000000 * 10 ^ d) ≥ 1 * (10000000000000000000 * 1) := Int.mul_le_mul (by omega) (by omega) (by decide) (by omega)
    omega
  · exact h1
theorem digits_next {n : Int} {m : Nat} (h : n * 10 ^ m ≤ 9223372036854775807) (hn : 0 < n) : n / 10 * 10 ^ (m + 1) ≤ 9223372036854775807 := by
  have h1 : n / 10 * 10 ≤ n := by omega
  have h2 : (0 : Int) ≤ 10 ^ m := Int.le_of_lt (Int.pow_pos (by decide))
  have h3 : n / 10 * 10 ^ (m + 1) = n / 10 * 10 * 10 ^ m := by rw [Int.pow_succ, Int.mul_assoc, Int.mul_comm (10 ^ m) 10]
  rw [h3]
  exact Int.le_trans (Int.mul_le_mul_of_nonneg_right h1 h2) h
set_option maxHeartbeats 4000000 in
theorem c_markText (k : Int) (hk9 : k ≤ 9223372036854775807) (w : World) : Calls Tryz.prog 112 #[.int .i64 k] w fun e w' => ∃ s, e = .returned (.string s) ∧ Below w.heap.size w w' := by
  by_cases hk : k ≤ 0
  · go_enter Tryz.func112, Tryz.ntmps112
    go_wp2_with fail
    go_ret
    exact ⟨_, rfl, Below.refl _ _⟩
  · go_enter Tryz.func112, Tryz.ntmps112
    go_wp2_with fail
    go_loopw [0, 3] (fun kk s wr => ∃ (n : Int) (st : ByteArray), 0 ≤ n ∧ n ≤ 9223372036854775807 ∧ kk = .int .i64 n ∧ s = .string st ∧ (0 < n → n * 10 ^ st.size ≤ 9223372036854775807) ∧ st.size ≤ 19 ∧ Below w.heap.size w wr) (fun kk _ _ => (intOf kk).toNat)
    case atStart => exact ⟨k, ByteArray.empty, by omega, hk9, rfl, rfl, fun _ => by show k * 10 ^ 0 ≤ _; omega, by decide, Below.refl _ _⟩
    case round =>
      obtain ⟨n, st, hn, hn9, rfl, rfl, hp, hs19, hB⟩ := hrel
      have HB := Go.Lib.hid hB
      have HP := Go.Lib.hid hp
      clear hB hp
      have hss : ∀ x : Int, (strOfNums [x]).size = 1 := fun x => rfl
      have hm19 : st.size ≤ 9223372036854775807 := by omega
      by_cases hz : 0 < n
      · have hcv := cv1 wr
        have hs18 := digits_bound (HP.out hz) hz
        have hm18 : 1 + st.size ≤ maxLen := by unfold maxLen; omega
        go_wp2_with fail
        go_roundw
        case rel => exact ⟨_, _, by omega, by omega, rfl, rfl, fun _ => by rw [ByteArray.size_append, hss, Nat.add_comm]; exact digits_next (HP.out hz) hz, by rw [ByteArray.size_append, hss]; omega, HB.out.trans (Below.mono (show Below wr.heap.size wr _ by go_grown) HB.out.size)⟩
        case measure => simp [intOf]; omega
      · go_wp2_with fail
        go_ret
        exact ⟨⟨_, rfl⟩, HB.out⟩

set_option maxHeartbeats 4000000 in
theorem c_markIntS {T : Nat → Prop} {g len cap : Nat} (hT : T g) (k : Int) (hk0 : 0 ≤ k) (hk1 : k ≤ 1099511627776) (hlen : len ≤ 1048576) (w : World) (h : Room w g (len * 1)) :
    Calls Tryz.prog 47 #[.slice (some ⟨g, 0, none⟩) len cap, .int .i64 k] w fun e w' => e = .returned (.int .i64 (k + len)) ∧ Touch T w w' ∧ g < w'.heap.size ∧ ∀ t : Nat, t < len → w'.cell? ⟨g, t, none⟩ = some (.int .i64 (k + t)) := by
  have HR := Go.Lib.hid h
  clear h
  go_enter Tryz.func47, Tryz.ntmps47
  go_wp2_with fail
  go_loopw [1, 5] (fun kk i wr => ∃ j : Nat, j ≤ len ∧ i = .int .i64 j ∧ kk = .int .i64 (k + j) ∧ Touch T w wr ∧ Room wr g (len * 1) ∧ ∀ t : Nat, t < j → wr.cell? ⟨g, t, none⟩ = some (.int .i64 (k + t))) (fun _ i _ => len - (intOf i).toNat)
  case atStart => exact ⟨0, by omega, rfl, by go_num, Touch.refl _ _, HR.out, fun t h => by omega⟩
  case round =>
    obtain ⟨j, hj, rfl, rfl, ht, hr, hc⟩ := hrel
    have HT0 := Go.Lib.hid ht
    have HR0 := Go.Lib.hid hr
    have HC := Go.Lib.hid hc
    clear ht hr hc HR
    by_cases hjl : j < len
    · have hji : (j : Int) < len := by omega
      have hw0 : wrap64 (k + (j : Int) + 1) = k + (j : Int) + 1 := IntWalk.wrap64_in _ (by omega)
      obtain ⟨⟨v0, d0⟩, f0⟩ := room_at HR0.out (show j < len * 1 by omega)
      have HC1 := Go.Lib.hid (show ∀ t : Nat, t < j + 1 → (wr.setCell ⟨g, j, none⟩ (.int .i64 (k + j))).cell? ⟨g, t, none⟩ = some (.int .i64 (k + t)) from fun t ht => by
        by_cases e : t = j
        · subst e; exact World.cell?_setCell_same _ _ _ d0
        · exact (World.cell?_setCell_other _ _ _ _ (by simp <;> omega)).trans (HC.out t (by omega)))
      go_wp2_with fail
      go_roundw
      case rel => exact ⟨j + 1, by omega, by go_num, by go_num, Touch.set hT HT0.out _ _, HR0.out.set _ _, HC1.out⟩
      case measure => simp [intOf] <;> omega
    · have hji : ¬ (j : Int) < len := by omega
      obtain rfl : j = len := by omega
      go_wp2_with fail
      go_ret
      exact ⟨rfl, HT0.out, HR0.out.1, HC.out⟩
set_option maxHeartbeats 4000000 in
theorem c_heldIntS {g len cap : Nat} (k : Int) (hk0 : 0 ≤ k) (hk1 : k ≤ 1099511627776) (hlen : len ≤ 1048576) (w : World) (h : ∀ t : Nat, t < len → w.cell? ⟨g, t, none⟩ = some (.int .i64 (k + t))) :
    Calls Tryz.prog 67 #[.slice (some ⟨g, 0, none⟩) len cap, .int .i64 k] w fun e w' => e = .returned (.int .i64 (k + len)) ∧ w' = w := by
  have HR := Go.Lib.hid h
  clear h
  go_enter Tryz.func67, Tryz.ntmps67
  go_wp2_with fail
  go_loopw [1, 5] (fun kk i wr => ∃ j : Nat, j ≤ len ∧ i = .int .i64 j ∧ kk = .int .i64 (k + j) ∧ wr = w) (fun _ i _ => len - (intOf i).toNat)
  case atStart => exact ⟨0, by omega, rfl, by go_num, rfl⟩
  case round =>
    obtain ⟨j, hj, rfl, rfl, rfl⟩ := hrel
    by_cases hjl : j < len
    · have hji : (j : Int) < len := by omega
      have hw0 : wrap64 (k + (j : Int) + 1) = k + (j : Int) + 1 := IntWalk.wrap64_in _ (by omega)
      have d0 := HR.out j hjl
      go_wp2_with fail
      go_roundw
      case rel => exact ⟨j + 1, by omega, by go_num, by go_num, by first | rfl | trivial⟩
      case measure => simp [intOf] <;> omega
    · have hji : ¬ (j : Int) < len := by omega
      obtain rfl : j = len := by omega
      go_wp2_with fail
      go_ret
      exact ⟨rfl, by trivial⟩
theorem c_markIntS_nil (k : Int) (w : World) : Calls Tryz.prog 47 #[.slice none 0 0, .int .i64 k] w fun e w' => e = .returned (.int .i64 k) ∧ w' = w := by
  go_enter Tryz.func47, Tryz.ntmps47
  go_wp2_with fail
  go_loopw [1, 5] (fun kk i wr => i = .int .i64 0 ∧ kk = .int .i64 k ∧ wr = w) (fun _ _ _ => 0)
  case atStart => exact ⟨rfl, rfl, rfl⟩
  case round =>
    obtain ⟨rfl, rfl, rfl⟩ := hrel
    go_wp2_with fail
    go_ret
    exact ⟨rfl, by first | rfl | trivial⟩
theorem c_heldIntS_nil (k : Int) (w : World) : Calls Tryz.prog 67 #[.slice none 0 0, .int .i64 k] w fun e w' => e = .returned (.int .i64 k) ∧ w' = w := by
  go_enter Tryz.func67, Tryz.ntmps67
  go_wp2_with fail
  go_loopw [1, 5] (fun kk i wr => i = .int .i64 0 ∧ kk = .int .i64 k ∧ wr = w) (fun _ _ _ => 0)
  case atStart => exact ⟨rfl, rfl, rfl⟩
  case round =>
    obtain ⟨rfl, rfl, rfl⟩ := hrel
    go_wp2_with fail
    go_ret
    exact ⟨rfl, by first | rfl | trivial⟩

set_option maxHeartbeats 8000000 in
theorem c_markBindS {T : Nat → Prop} {g len cap : Nat} (hT : T g) (k : Int) (hk0 : 0 ≤ k) (hk1 : k ≤ 1099511627776) (hlen : len ≤ 1048576) (w : World) (h : Room w g (len * 2)) :
    Calls Tryz.prog 66 #[.slice (some ⟨g, 0, none⟩) len cap, .int .i64 k] w fun e w' => e = .returned (.int .i64 (k + 2 * len)) ∧ Touch T w w' := by
  have HR := Go.Lib.hid h
  clear h
  go_enter Tryz.func66, Tryz.ntmps66
  go_wp2_with fail
  go_loopw [1, 5] (fun kk i wr => ∃ j : Nat, j ≤ len ∧ i = .int .i64 j ∧ kk = .int .i64 (k + 2 * j) ∧ Touch T w wr ∧ Room wr g (len * 2)) (fun _ i _ => len - (intOf i).toNat)
  case atStart => exact ⟨0, by omega, rfl, by go_num, Touch.refl _ _, HR.out⟩
  case round =>
    obtain ⟨j, hj, rfl, rfl, ht, hr⟩ := hrel
    have HT0 := Go.Lib.hid ht
    have HR0 := Go.Lib.hid hr
    clear ht hr HR
    by_cases hjl : j < len
    · have hji : (j : Int) < len := by omega
      have hw0 : wrap64 (k + 2 * (j : Int) + 0 + 1) = k + 2 * (j : Int) + 0 + 1 := IntWalk.wrap64_in _ (by omega)
      have hw1 : wrap64 (k + 2 * (j : Int) + 1 + 1) = k + 2 * (j : Int) + 1 + 1 := IntWalk.wrap64_in _ (by omega)
      obtain ⟨⟨v0, d0⟩, f0⟩ := room_at HR0.out (show j * 2 < len * 2 by omega)
      go_upto_region 6 with fail
      refine code_gen (R := fun wb => Touch T w wb ∧ Room wb g (len * 2)) ⟨Touch.set hT HT0.out _ _, HR0.out.set _ _⟩ ?_
      rintro w1 ⟨ht, hr⟩
      have HT1 := Go.Lib.hid ht
      have HR1 := Go.Lib.hid hr
      clear ht hr d0 f0
      obtain ⟨⟨v1, d1⟩, f1⟩ := room_at HR1.out (show j * 2 + 1 < len * 2 by omega)
      go_wp2_with fail
      go_roundw
      case rel => exact ⟨j + 1, by omega, by go_num, by go_num, Touch.set hT HT1.out _ _, HR1.out.set _ _⟩
      case measure => simp [intOf] <;> omega
    · have hji : ¬ (j : Int) < len := by omega
      obtain rfl : j = len := by omega
      go_wp2_with fail
      go_ret
      exact ⟨rfl, HT0.out⟩

set_option maxHeartbeats 8000000 in
theorem c_markNodeS {T : Nat → Prop} {g len cap : Nat} (hT : T g) (k : Int) (hk0 : 0 ≤ k) (hk1 : k ≤ 1099511627776) (hlen : len ≤ 1048576) (w : World) (h : Room w g (len * 9)) :
    Calls Tryz.prog 65 #[.slice (some ⟨g, 0, none⟩) len cap, .int .i64 k] w fun e w' => e = .returned (.int .i64 (k + 9 * len)) ∧ Touch T w w' := by
  have HR := Go.Lib.hid h
  clear h
  go_enter Tryz.func65, Tryz.ntmps65
  go_wp2_with fail
  go_loopw [1, 5] (fun kk i wr => ∃ j : Nat, j ≤ len ∧ i = .int .i64 j ∧ kk = .int .i64 (k + 9 * j) ∧ Touch T w wr ∧ Room wr g (len * 9)) (fun _ i _ => len - (intOf i).toNat)
  case atStart => exact ⟨0, by omega, rfl, by go_num, Touch.refl _ _, HR.out⟩
  case round =>
    obtain ⟨j, hj, rfl, rfl, ht, hr⟩ := hrel
    have HT0 := Go.Lib.hid ht
    have HR0 := Go.Lib.hid hr
    clear ht hr HR
    by_cases hjl : j < len
    · have hji : (j : Int) < len := by omega
      have hw0 : wrap64 (k + 9 * (j : Int) + 0 + 1) = k + 9 * (j : Int) + 0 + 1 := IntWalk.wrap64_in _ (by omega)
      have hw1 : wrap64 (k + 9 * (j : Int) + 1 + 1) = k + 9 * (j : Int) + 1 + 1 := IntWalk.wrap64_in _ (by omega)
      have hw2 : wrap64 (k + 9 * (j : Int) + 2 + 1) = k + 9 * (j : Int) + 2 + 1 := IntWalk.wrap64_in _ (by omega)
      have hw3 : wrap64 (k + 9 * (j : Int) + 3 + 1) = k + 9 * (j : Int) + 3 + 1 := IntWalk.wrap64_in _ (by omega)
      have hw4 : wrap64 (k + 9 * (j : Int) + 4 + 1) = k + 9 * (j : Int) + 4 + 1 := IntWalk.wrap64_in _ (by omega)
      have hw5 : wrap64 (k + 9 * (j : Int) + 5 + 1) = k + 9 * (j : Int) + 5 + 1 := IntWalk.wrap64_in _ (by omega)
      have hw6 : wrap64 (k + 9 * (j : Int) + 6 + 1) = k + 9 * (j : Int) + 6 + 1 := IntWalk.wrap64_in _ (by omega)
      have hw7 : wrap64 (k + 9 * (j : Int) + 7 + 1) = k + 9 * (j : Int) + 7 + 1 := IntWalk.wrap64_in _ (by omega)
      have hw8 : wrap64 (k + 9 * (j : Int) + 8 + 1) = k + 9 * (j : Int) + 8 + 1 := IntWalk.wrap64_in _ (by omega)
      obtain ⟨⟨v0, d0⟩, f0⟩ := room_at HR0.out (show j * 9 < len * 9 by omega)
      go_upto_region 6 with fail
      refine code_gen (R := fun wb => Touch T w wb ∧ Room wb g (len * 9)) ⟨Touch.set hT HT0.out _ _, HR0.out.set _ _⟩ ?_
      rintro w1 ⟨ht, hr⟩
      have HT1 := Go.Lib.hid ht
      have HR1 := Go.Lib.hid hr
      clear ht hr d0 f0
      obtain ⟨⟨v1, d1⟩, f1⟩ := room_at HR1.out (show j * 9 + 1 < len * 9 by omega)
      go_upto_region 8 with fail
      refine code_gen (R := fun wb => Touch T w wb ∧ Room wb g (len * 9)) ⟨Touch.set hT HT1.out _ _, HR1.out.set _ _⟩ ?_
      rintro w2 ⟨ht, hr⟩
      have HT2 := Go.Lib.hid ht
      have HR2 := Go.Lib.hid hr
      clear ht hr d1 f1
      obtain ⟨⟨v2, d2⟩, f2⟩ := room_at HR2.out (show j * 9 + 2 < len * 9 by omega)
      go_upto_region 10 with fail
      refine code_gen (R := fun wb => Touch T w wb ∧ Room wb g (len * 9)) ⟨Touch.set hT HT2.out _ _, HR2.out.set _ _⟩ ?_
      rintro w3 ⟨ht, hr⟩
      have HT3 := Go.Lib.hid ht
      have HR3 := Go.Lib.hid hr
      clear ht hr d2 f2
      obtain ⟨⟨v3, d3⟩, f3⟩ := room_at HR3.out (show j * 9 + 3 < len * 9 by omega)
      go_upto_region 12 with fail
      refine code_gen (R := fun wb => Touch T w wb ∧ Room wb g (len * 9)) ⟨Touch.set hT HT3.out _ _, HR3.out.set _ _⟩ ?_
      rintro w4 ⟨ht, hr⟩
      have HT4 := Go.Lib.hid ht
      have HR4 := Go.Lib.hid hr
      clear ht hr d3 f3
      obtain ⟨⟨v4, d4⟩, f4⟩ := room_at HR4.out (show j * 9 + 4 < len * 9 by omega)
      go_upto_region 14 with fail
      refine code_gen (R := fun wb => Touch T w wb ∧ Room wb g (len * 9)) ⟨Touch.set hT HT4.out _ _, HR4.out.set _ _⟩ ?_
      rintro w5 ⟨ht, hr⟩
      have HT5 := Go.Lib.hid ht
      have HR5 := Go.Lib.hid hr
      clear ht hr d4 f4
      obtain ⟨⟨v5, d5⟩, f5⟩ := room_at HR5.out (show j * 9 + 5 < len * 9 by omega)
      go_upto_region 16 with fail
      refine code_gen (R := fun wb => Touch T w wb ∧ Room wb g (len * 9)) ⟨Touch.set hT HT5.out _ _, HR5.out.set _ _⟩ ?_
      rintro w6 ⟨ht, hr⟩
      have HT6 := Go.Lib.hid ht
      have HR6 := Go.Lib.hid hr
      clear ht hr d5 f5
      obtain ⟨⟨v6, d6⟩, f6⟩ := room_at HR6.out (show j * 9 + 6 < len * 9 by omega)
      go_upto_region 18 with fail
      refine code_gen (R := fun wb => Touch T w wb ∧ Room wb g (len * 9)) ⟨Touch.set hT HT6.out _ _, HR6.out.set _ _⟩ ?_
      rintro w7 ⟨ht, hr⟩
      have HT7 := Go.Lib.hid ht
      have HR7 := Go.Lib.hid hr
      clear ht hr d6 f6
      obtain ⟨⟨v7, d7⟩, f7⟩ := room_at HR7.out (show j * 9 + 7 < len * 9 by omega)
      go_upto_region 20 with fail
      refine code_gen (R := fun wb => Touch T w wb ∧ Room wb g (len * 9)) ⟨Touch.set hT HT7.out _ _, HR7.out.set _ _⟩ ?_
      rintro w8 ⟨ht, hr⟩
      have HT8 := Go.Lib.hid ht
      have HR8 := Go.Lib.hid hr
      clear ht hr d7 f7
      obtain ⟨⟨v8, d8⟩, f8⟩ := room_at HR8.out (show j * 9 + 8 < len * 9 by omega)
      go_wp2_with fail
      refine (c_markText _ (by omega) _).mono ?_
      rintro e w10 ⟨s, rfl, hB⟩
      have HT8' := Go.Lib.hid (HT8.out.below hB)
      have HR8' := Go.Lib.hid (HR8.out.below hB)
      clear hB v8 d8 f8 HT8 HR8
      have HT8 := HT8'
      have HR8 := HR8'
      obtain ⟨⟨v8, d8⟩, f8⟩ := room_at HR8.out (show j * 9 + 8 < len * 9 by omega)
      go_wp2_with fail
      go_roundw
      case rel => exact ⟨j + 1, by omega, by go_num, by go_num, Touch.set hT HT8.out _ _, HR8.out.set _ _⟩
      case measure => simp [intOf] <;> omega
    · have hji : ¬ (j : Int) < len := by omega
      obtain rfl : j = len := by omega
      go_wp2_with fail
      go_ret
      exact ⟨rfl, HT0.out⟩

/-- The blocks of a model's copy can be written. -/
def ModelRoom (w : World) (g0 g1 g2 g3 g4 l0 l1 l2 l3 l4 : Nat) : Prop := Room w g0 (l0 * 9) ∧ Room w g1 (l1 * 2) ∧ Room w g2 (l2 * 2) ∧ Room w g3 (l3 * 1) ∧ Room w g4 (l4 * 1)
theorem ModelRoom.below {w w' : World} {g0 g1 g2 g3 g4 l0 l1 l2 l3 l4 : Nat} (h : ModelRoom w g0 g1 g2 g3 g4 l0 l1 l2 l3 l4) (hb : Below w.heap.size w w') : ModelRoom w' g0 g1 g2 g3 g4 l0 l1 l2 l3 l4 :=
  ⟨h.1.below hb, h.2.1.below hb, h.2.2.1.below hb, h.2.2.2.1.below hb, h.2.2.2.2.below hb⟩
theorem ModelRoom.touch {T : Nat → Prop} {w w' : World} {g0 g1 g2 g3 g4 l0 l1 l2 l3 l4 : Nat} (h : ModelRoom w g0 g1 g2 g3 g4 l0 l1 l2 l3 l4) (ht : Touch T w w') : ModelRoom w' g0 g1 g2 g3 g4 l0 l1 l2 l3 l4 :=
  ⟨ht.room _ _ h.1, ht.room _ _ h.2.1, ht.room _ _ h.2.2.1, ht.room _ _ h.2.2.2.1, ht.room _ _ h.2.2.2.2⟩

set_option maxHeartbeats 4000000 in
theorem c_markModel {T : Nat → Prop} {g0 g1 g2 g3 g4 l0 l1 l2 l3 l4 : Nat} (t0 : T g0) (t1 : T g1) (t2 : T g2) (t3 : T g3) (t4 : T g4) (k0 : l0 ≤ 1048576) (k1 : l1 ≤ 1048576) (k2 : l2 ≤ 1048576) (k3 : l3 ≤ 1048576) (k4 : l4 ≤ 1048576)
    (w : World) (hTw : ¬ T w.heap.size) (hr : ModelRoom w g0 g1 g2 g3 g4 l0 l1 l2 l3 l4) :
    Calls Tryz.prog 21 #[.agg (mcells (slOf g0 l0) (slOf g1 l1) (slOf g2 l2) (slOf g3 l3) (slOf g4 l4)).toArray, .int .i64 1] w fun e w' => (∃ r : Int, e = .returned (.int .i64 r) ∧ 0 ≤ r) ∧ Touch T w w' := by
  have HR := Go.Lib.hid hr
  clear hr
  simp only [mcells, slOf]
  go_enter Tryz.func21, Tryz.ntmps21
  go_upto_region 1 with fail
  refine code_gen (R := fun wb => wb.heap[w.heap.size]? = some (.cells #[.slice (some ⟨g0, 0, none⟩) l0 l0, .slice (some ⟨g1, 0, none⟩) l1 l1, .slice (some ⟨g2, 0, none⟩) l2 l2, .slice (some ⟨g3, 0, none⟩) l3 l3, .slice (some ⟨g4, 0, none⟩) l4 l4] 35 (0, 0)) ∧ Touch T w wb ∧ ModelRoom wb g0 g1 g2 g3 g4 l0 l1 l2 l3 l4) ⟨(MapKept.heap_alloc _ _).1, (Touch.refl T w).below (by go_grown), ModelRoom.below HR.out (by go_grown)⟩ ?_
  rintro w0 ⟨hb, ht, hr⟩
  have HB0 := Go.Lib.hid hb
  have HT0 := Go.Lib.hid ht
  have HR0 := Go.Lib.hid hr
  clear hb ht hr HR
  have x := cell_of_block (i := 0) HB0.out (v := .slice (some ⟨g0, 0, none⟩) l0 l0) rfl
  go_wp2_with fail
  refine (c_markNodeS t0 _ (by omega) (by omega) k0 w0 HR0.out.1).mono ?_
  rintro e w1 ⟨rfl, ht⟩
  have HT1 := Go.Lib.hid (HT0.out.trans ht)
  have HB1 := Go.Lib.hid ((ht.block _ (Array.getElem?_eq_some_iff.1 HB0.out).1 hTw).trans HB0.out)
  have HR1 := Go.Lib.hid (ModelRoom.touch HR0.out ht)
  clear ht x
  have x := cell_of_block (i := 1) HB1.out (v := .slice (some ⟨g1, 0, none⟩) l1 l1) rfl
  go_wp2_with fail
  refine (c_markBindS t1 _ (by omega) (by omega) k1 w1 HR1.out.2.1).mono ?_
  rintro e w2 ⟨rfl, ht⟩
  have HT2 := Go.Lib.hid (HT1.out.trans ht)
  have HB2 := Go.Lib.hid ((ht.block _ (Array.getElem?_eq_some_iff.1 HB1.out).1 hTw).trans HB1.out)
  have HR2 := Go.Lib.hid (ModelRoom.touch HR1.out ht)
  clear ht x
  have x := cell_of_block (i := 2) HB2.out (v := .slice (some ⟨g2, 0, none⟩) l2 l2) rfl
  go_wp2_with fail
  refine (c_markBindS t2 _ (by omega) (by omega) k2 w2 HR2.out.2.2.1).mono ?_
  rintro e w3 ⟨rfl, ht⟩
  have HT3 := Go.Lib.hid (HT2.out.trans ht)
  have HB3 := Go.Lib.hid ((ht.block _ (Array.getElem?_eq_some_iff.1 HB2.out).1 hTw).trans HB2.out)
  have HR3 := Go.Lib.hid (ModelRoom.touch HR2.out ht)
  clear ht x
  have x := cell_of_block (i := 3) HB3.out (v := .slice (some ⟨g3, 0, none⟩) l3 l3) rfl
  go_wp2_with fail
  refine (c_markIntS t3 _ (by omega) (by omega) k3 w3 HR3.out.2.2.2.1).mono ?_
  rintro e w4 ⟨rfl, ht, -, -⟩
  have HT4 := Go.Lib.hid (HT3.out.trans ht)
  have HB4 := Go.Lib.hid ((ht.block _ (Array.getElem?_eq_some_iff.1 HB3.out).1 hTw).trans HB3.out)
  have HR4 := Go.Lib.hid (ModelRoom.touch HR3.out ht)
  clear ht x
  have x := cell_of_block (i := 4) HB4.out (v := .slice (some ⟨g4, 0, none⟩) l4 l4) rfl
  go_wp2_with fail
  refine (c_markIntS t4 _ (by omega) (by omega) k4 w4 HR4.out.2.2.2.2).mono ?_
  rintro e w5 ⟨rfl, ht, -, -⟩
  have HT5 := Go.Lib.hid (HT4.out.trans ht)
  have HB5 := Go.Lib.hid ((ht.block _ (Array.getElem?_eq_some_iff.1 HB4.out).1 hTw).trans HB4.out)
  clear ht x
  go_wp2_with fail
  go_ret
  exact ⟨⟨_, rfl, by omega⟩, HT5.out⟩
end Go.Proofs.YtdfcjfielkpkiaaGreat
