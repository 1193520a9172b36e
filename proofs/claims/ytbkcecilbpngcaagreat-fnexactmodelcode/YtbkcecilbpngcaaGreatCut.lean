/-
  What joining, cutting and growing words answer, both of the program and of the model, at whatever arguments; they only read.
-/
import Derived.Test.YtbkcecilbpngcaaGreatRows
import Derived.Test.YtbkcecilbpngcaaGreatPaA
import Derived.WalkKit
import Derived.ProofKit
import Derived.OpenShut
import Derived.WalkSpells
import Derived.WalkLawsBesides
import Derived.Outline
import Derived.BigQuiet
namespace Go.Proofs.YtbkcecilbpngcaaGreat
open Go.ChangeShapes Go.WideShapes Go.ChangeAt Go.RowKit

theorem ret3 {a a' b b' : Int} {c c' : Bool} (h1 : a = a') (h2 : b = b') (h3 : c = c') :
    Ending.returned (.tuple #[.int .i64 a, .int .i64 b, .bool c]) = Ending.returned (.tuple #[.int .i64 a', .int .i64 b', .bool c']) := by rw [h1, h2, h3]

/-- Both are words, and together not too wide. -/
def JOk (n a u b : Int) : Prop := WOk n a ∧ WOk u b ∧ n + u ≤ 16
instance (n a u b : Int) : Decidable (JOk n a u b) := by unfold JOk; infer_instance

def joinR (n a u b : Int) : Int × Int × Bool := if JOk n a u b then (a * 2 ^ u.toNat + b, n + u, true) else (0, 0, false)
theorem joinR_ok {n a u b : Int} (h : JOk n a u b) : joinR n a u b = (a * 2 ^ u.toNat + b, n + u, true) := if_pos h
theorem joinR_no {n a u b : Int} (h : ¬ JOk n a u b) : joinR n a u b = (0, 0, false) := if_neg h

/-- The bits are there, and it is a word. -/
def SOk (n a hi lo : Int) : Prop := WOk n a ∧ 0 ≤ lo ∧ lo ≤ hi ∧ hi < n
instance (n a hi lo : Int) : Decidable (SOk n a hi lo) := by unfold SOk; infer_instance
def sliceR (n a hi lo : Int) : Int × Int × Bool := if SOk n a hi lo then (a / 2 ^ lo.toNat % 2 ^ (hi - lo + 1).toNat, hi - lo + 1, true) else (0, 0, false)
theorem sliceR_ok {n a hi lo : Int} (h : SOk n a hi lo) : sliceR n a hi lo = (a / 2 ^ lo.toNat % 2 ^ (hi - lo + 1).toNat, hi - lo + 1, true) := if_pos h
theorem sliceR_no {n a hi lo : Int} (h : ¬ SOk n a hi lo) : sliceR n a hi lo = (0, 0, false) := if_neg h

/-- It is a word, and does not become too wide. -/
def GOk (n a more : Int) : Prop := WOk n a ∧ 0 ≤ more ∧ more ≤ 16 - n
instance (n a more : Int) : Decidable (GOk n a more) := by unfold GOk; infer_instance
def growR (n a more : Int) (s : Bool) : Int × Int × Bool := if GOk n a more then (if s then frm (n + more) (sgn n a) else a, n + more, true) else (0, 0, false)
theorem growR_ok {n a more : Int} (s : Bool) (h : GOk n a more) : growR n a more s = (if s then frm (n + more) (sgn n a) else a, n + more, true) := if_pos h
theorem growR_no {n a more : Int} (s : Bool) (h : ¬ GOk n a more) : growR n a more s = (0, 0, false) := if_neg h

theorem join_or {a b u : Int} (ha : 0 ≤ a) (hab : a * 2 ^ u.toNat < 65536) (hb : 0 ≤ b) (hb2 : b < 2 ^ u.toNat) (hu : u ≤ 16) :
    bits .or .i64 (a * 2 ^ u.toNat) b = a * 2 ^ u.toNat + b := by
  have hp := p2_pos u.toNat
  have hle := p2_le hu
  rw [i64_or _ _ (Int.mul_nonneg ha (by omega)) hab hb (by omega)]
  have e1 : (a * 2 ^ u.toNat).toNat = 2 ^ u.toNat * a.toNat := by
    rw [Int.toNat_mul ha (by omega), Nat.mul_comm]; congr 1
  have hlt : b.toNat < 2 ^ u.toNat := by rw [← p2_cast] at hb2; omega
  rw [e1, ← Nat.two_pow_add_eq_or_of_lt hlt, Int.natCast_add, Int.natCast_mul, Int.toNat_of_nonneg ha, Int.toNat_of_nonneg hb, p2_cast, Int.mul_comm]

theorem join_bound {n a u b : Int} (h : JOk n a u b) : 0 ≤ a * 2 ^ u.toNat ∧ a * 2 ^ u.toNat + b < 2 ^ (n + u).toNat ∧ (2 : Int) ^ (n + u).toNat ≤ 65536 := by
  obtain ⟨⟨h1, h2, h3, h4⟩, ⟨k1, k2, k3, k4⟩, hj⟩ := h
  have hp := p2_pos u.toNat
  have e : (n + u).toNat = n.toNat + u.toNat := by omega
  refine ⟨Int.mul_nonneg h3 (by omega), ?_, p2_le hj⟩
  rw [e, p2_add]
  have : (a + 1) * 2 ^ u.toNat ≤ 2 ^ n.toNat * 2 ^ u.toNat := Int.mul_le_mul_of_nonneg_right (by omega) (by omega)
  rw [Int.add_mul] at this
  omega

theorem c_WordJoinI (n a u b : Int) (w : World) :
    Calls Tryz.prog 146 #[.int .i64 n, .int .i64 a, .int .i64 u, .int .i64 b] w fun e w' => e = .returned (.tuple #[.int .i64 (joinR n a u b).1, .int .i64 (joinR n a u b).2.1, .bool (joinR n a u b).2.2]) ∧ w' = w := by
  by_cases ha : WOk n a
  · have hda : decide (WOk n a) = true := decide_eq_true ha
    by_cases hb : WOk u b
    · have hdb : decide (WOk u b) = true := decide_eq_true hb
      have hn1 := ha.1; have hn2 := ha.2.1; have hu1 := hb.1; have hu2 := hb.2.1
      have hw : wrap64 (n + u) = n + u := IntWalk.wrap64_in _ (by omega)
      by_cases hj : n + u ≤ 16
      · have hJ : Hid (JOk n a u b) := ⟨ha, hb, hj⟩
        have hB : Hid _ := join_bound hJ.out
        have hv : wrap64 (a * 2 ^ u.toNat) = a * 2 ^ u.toNat := by
          have := hB.out; have := hb.2.2.1; exact IntWalk.wrap64_in _ (by omega)
        have hor : bits .or .i64 (a * 2 ^ u.toNat) b = a * 2 ^ u.toNat + b := by
          have := hB.out; have := hb.2.2.1; exact join_or ha.2.2.1 (by omega) hb.2.2.1 hb.2.2.2 hu2
        go_enter Tryz.func146, Tryz.ntmps146
        go_wp2_with (go_at_call 118; refine (c_WordOkI _ _ _).mono ?_; rintro e w' ⟨rfl, rfl⟩)
        go_ret3
        exact ⟨ret3 (by rw [joinR_ok hJ.out]) (by rw [joinR_ok hJ.out]) (by rw [joinR_ok hJ.out]), rfl⟩
      · have hJ : Hid (¬ JOk n a u b) := fun k => hj k.2.2
        go_enter Tryz.func146, Tryz.ntmps146
        go_wp2_with (go_at_call 118; refine (c_WordOkI _ _ _).mono ?_; rintro e w' ⟨rfl, rfl⟩)
        go_ret3
        exact ⟨ret3 (by rw [joinR_no hJ.out]) (by rw [joinR_no hJ.out]) (by rw [joinR_no hJ.out]), rfl⟩
    · have hdb : decide (WOk u b) = false := decide_eq_false hb
      have hJ : Hid (¬ JOk n a u b) := fun k => hb k.2.1
      clear ha hb
      go_enter Tryz.func146, Tryz.ntmps146
      go_wp2_with (go_at_call 118; refine (c_WordOkI _ _ _).mono ?_; rintro e w' ⟨rfl, rfl⟩)
      go_ret3
      exact ⟨ret3 (by rw [joinR_no hJ.out]) (by rw [joinR_no hJ.out]) (by rw [joinR_no hJ.out]), rfl⟩
  · have hda : decide (WOk n a) = false := decide_eq_false ha
    have hJ : Hid (¬ JOk n a u b) := fun k => ha k.1
    clear ha
    go_enter Tryz.func146, Tryz.ntmps146
    go_wp2_with (go_at_call 118; refine (c_WordOkI _ _ _).mono ?_; rintro e w' ⟨rfl, rfl⟩)
    go_ret3
    exact ⟨ret3 (by rw [joinR_no hJ.out]) (by rw [joinR_no hJ.out]) (by rw [joinR_no hJ.out]), rfl⟩

theorem c_WordJoinS (n a u b : Int) (w : World) :
    Calls Tryz.prog 110 #[.int .i64 n, .int .i64 a, .int .i64 u, .int .i64 b] w fun e w' => e = .returned (.tuple #[.int .i64 (joinR n a u b).1, .int .i64 (joinR n a u b).2.1, .bool (joinR n a u b).2.2]) ∧ w' = w := by
  by_cases ha : WOk n a
  · have hda : decide (WOk n a) = true := decide_eq_true ha
    by_cases hb : WOk u b
    · have hdb : decide (WOk u b) = true := decide_eq_true hb
      have hn1 := ha.1; have hn2 := ha.2.1; have hu1 := hb.1; have hu2 := hb.2.1
      have hw : wrap64 (n + u) = n + u := IntWalk.wrap64_in _ (by omega)
      by_cases hj : n + u ≤ 16
      · have hJ : Hid (JOk n a u b) := ⟨ha, hb, hj⟩
        have hB : Hid _ := join_bound hJ.out
        have hv : wrap64 (a * 2 ^ u.toNat) = a * 2 ^ u.toNat := by
          have := hB.out; have := hb.2.2.1; exact IntWalk.wrap64_in _ (by omega)
        have hor : wrap64 (a * 2 ^ u.toNat + b) = a * 2 ^ u.toNat + b := by
          have := hB.out; have := hb.2.2.1; exact IntWalk.wrap64_in _ (by omega)
        go_enter Tryz.func110, Tryz.ntmps110
        go_wp2_with (go_at_call 89; refine (c_WordOkS _ _ _).mono ?_; rintro e w' ⟨rfl, rfl⟩)
        go_ret3
        exact ⟨ret3 (by rw [joinR_ok hJ.out, hor]) (by rw [joinR_ok hJ.out]) (by rw [joinR_ok hJ.out]), rfl⟩
      · have hJ : Hid (¬ JOk n a u b) := fun k => hj k.2.2
        go_enter Tryz.func110, Tryz.ntmps110
        go_wp2_with (go_at_call 89; refine (c_WordOkS _ _ _).mono ?_; rintro e w' ⟨rfl, rfl⟩)
        go_ret3
        exact ⟨ret3 (by rw [joinR_no hJ.out]) (by rw [joinR_no hJ.out]) (by rw [joinR_no hJ.out]), rfl⟩
    · have hdb : decide (WOk u b) = false := decide_eq_false hb
      have hJ : Hid (¬ JOk n a u b) := fun k => hb k.2.1
      clear ha hb
      go_enter Tryz.func110, Tryz.ntmps110
      go_wp2_with (go_at_call 89; refine (c_WordOkS _ _ _).mono ?_; rintro e w' ⟨rfl, rfl⟩)
      go_ret3
      exact ⟨ret3 (by rw [joinR_no hJ.out]) (by rw [joinR_no hJ.out]) (by rw [joinR_no hJ.out]), rfl⟩
  · have hda : decide (WOk n a) = false := decide_eq_false ha
    have hJ : Hid (¬ JOk n a u b) := fun k => ha k.1
    clear ha
    go_enter Tryz.func110, Tryz.ntmps110
    go_wp2_with (go_at_call 89; refine (c_WordOkS _ _ _).mono ?_; rintro e w' ⟨rfl, rfl⟩)
    go_ret3
    exact ⟨ret3 (by rw [joinR_no hJ.out]) (by rw [joinR_no hJ.out]) (by rw [joinR_no hJ.out]), rfl⟩

theorem c_WordSliceI (n a hi lo : Int) (w : World) :
    Calls Tryz.prog 147 #[.int .i64 n, .int .i64 a, .int .i64 hi, .int .i64 lo] w fun e w' => e = .returned (.tuple #[.int .i64 (sliceR n a hi lo).1, .int .i64 (sliceR n a hi lo).2.1, .bool (sliceR n a hi lo).2.2]) ∧ w' = w := by
  by_cases ha : WOk n a
  · have hda : decide (WOk n a) = true := decide_eq_true ha
    have hn1 := ha.1; have hn2 := ha.2.1
    by_cases h1 : 0 ≤ lo
    · by_cases h2 : lo ≤ hi
      · by_cases h3 : hi < n
        · have hJ : Hid (SOk n a hi lo) := ⟨ha, h1, h2, h3⟩
          have hw1 : wrap64 (hi - lo) = hi - lo := IntWalk.wrap64_in _ (by omega)
          have hw2 : wrap64 (hi - lo + 1) = hi - lo + 1 := IntWalk.wrap64_in _ (by omega)
          have hw3 := wrap_p2 (n := hi - lo + 1) (by omega)
          have hne : ¬ (2 : Int) ^ (hi - lo + 1).toNat = 0 := by have := p2_pos (hi - lo + 1).toNat; omega
          go_enter Tryz.func147, Tryz.ntmps147
          go_wp2_with (first | (go_at_call 118; refine (c_WordOkI _ _ _).mono ?_; rintro e w' ⟨rfl, rfl⟩) | (go_at_call 158; refine (c_WordFromI _ _ _).mono ?_; rintro e w' ⟨rfl, rfl⟩))
          go_ret3
          exact ⟨ret3 (by rw [sliceR_ok hJ.out, frm_eq _ (by omega) (by omega)]) (by rw [sliceR_ok hJ.out]) (by rw [sliceR_ok hJ.out]), rfl⟩
        · have hJ : Hid (¬ SOk n a hi lo) := fun k => h3 k.2.2.2
          go_enter Tryz.func147, Tryz.ntmps147
          go_wp2_with (first | (go_at_call 118; refine (c_WordOkI _ _ _).mono ?_; rintro e w' ⟨rfl, rfl⟩) | (go_at_call 158; refine (c_WordFromI _ _ _).mono ?_; rintro e w' ⟨rfl, rfl⟩))
          go_ret3
          exact ⟨ret3 (by rw [sliceR_no hJ.out]) (by rw [sliceR_no hJ.out]) (by rw [sliceR_no hJ.out]), rfl⟩
      · have hJ : Hid (¬ SOk n a hi lo) := fun k => h2 k.2.2.1
        go_enter Tryz.func147, Tryz.ntmps147
        go_wp2_with (first | (go_at_call 118; refine (c_WordOkI _ _ _).mono ?_; rintro e w' ⟨rfl, rfl⟩) | (go_at_call 158; refine (c_WordFromI _ _ _).mono ?_; rintro e w' ⟨rfl, rfl⟩))
        go_ret3
        exact ⟨ret3 (by rw [sliceR_no hJ.out]) (by rw [sliceR_no hJ.out]) (by rw [sliceR_no hJ.out]), rfl⟩
    · have hJ : Hid (¬ SOk n a hi lo) := fun k => h1 k.2.1
      go_enter Tryz.func147, Tryz.ntmps147
      go_wp2_with (first | (go_at_call 118; refine (c_WordOkI _ _ _).mono ?_; rintro e w' ⟨rfl, rfl⟩) | (go_at_call 158; refine (c_WordFromI _ _ _).mono ?_; rintro e w' ⟨rfl, rfl⟩))
      go_ret3
      exact ⟨ret3 (by rw [sliceR_no hJ.out]) (by rw [sliceR_no hJ.out]) (by rw [sliceR_no hJ.out]), rfl⟩
  · have hda : decide (WOk n a) = false := decide_eq_false ha
    have hJ : Hid (¬ SOk n a hi lo) := fun k => ha k.1
    clear ha
    go_enter Tryz.func147, Tryz.ntmps147
    go_wp2_with (first | (go_at_call 118; refine (c_WordOkI _ _ _).mono ?_; rintro e w' ⟨rfl, rfl⟩) | (go_at_call 158; refine (c_WordFromI _ _ _).mono ?_; rintro e w' ⟨rfl, rfl⟩))
    go_ret3
    exact ⟨ret3 (by rw [sliceR_no hJ.out]) (by rw [sliceR_no hJ.out]) (by rw [sliceR_no hJ.out]), rfl⟩

theorem c_WordSliceS (n a hi lo : Int) (w : World) :
    Calls Tryz.prog 111 #[.int .i64 n, .int .i64 a, .int .i64 hi, .int .i64 lo] w fun e w' => e = .returned (.tuple #[.int .i64 (sliceR n a hi lo).1, .int .i64 (sliceR n a hi lo).2.1, .bool (sliceR n a hi lo).2.2]) ∧ w' = w := by
  by_cases ha : WOk n a
  · have hda : decide (WOk n a) = true := decide_eq_true ha
    have hn1 := ha.1; have hn2 := ha.2.1
    by_cases h1 : 0 ≤ lo
    · by_cases h2 : lo ≤ hi
      · by_cases h3 : hi < n
        · have hJ : Hid (SOk n a hi lo) := ⟨ha, h1, h2, h3⟩
          have hw1 : wrap64 (hi - lo) = hi - lo := IntWalk.wrap64_in _ (by omega)
          have hw2 : wrap64 (hi - lo + 1) = hi - lo + 1 := IntWalk.wrap64_in _ (by omega)
          have hw3 := wrap_p2 (n := hi - lo + 1) (by omega)
          have hne : ¬ (2 : Int) ^ (hi - lo + 1).toNat = 0 := by have := p2_pos (hi - lo + 1).toNat; omega
          go_enter Tryz.func111, Tryz.ntmps111
          go_wp2_with (go_at_call 89; refine (c_WordOkS _ _ _).mono ?_; rintro e w' ⟨rfl, rfl⟩)
          go_ret3
          exact ⟨ret3 (by rw [sliceR_ok hJ.out]; exact Int.tmod_eq_emod_of_nonneg (Int.ediv_nonneg ha.2.2.1 (Int.le_of_lt (p2_pos _)))) (by rw [sliceR_ok hJ.out]) (by rw [sliceR_ok hJ.out]), rfl⟩
        · have hJ : Hid (¬ SOk n a hi lo) := fun k => h3 k.2.2.2
          go_enter Tryz.func111, Tryz.ntmps111
          go_wp2_with (go_at_call 89; refine (c_WordOkS _ _ _).mono ?_; rintro e w' ⟨rfl, rfl⟩)
          go_ret3
          exact ⟨ret3 (by rw [sliceR_no hJ.out]) (by rw [sliceR_no hJ.out]) (by rw [sliceR_no hJ.out]), rfl⟩
      · have hJ : Hid (¬ SOk n a hi lo) := fun k => h2 k.2.2.1
        go_enter Tryz.func111, Tryz.ntmps111
        go_wp2_with (go_at_call 89; refine (c_WordOkS _ _ _).mono ?_; rintro e w' ⟨rfl, rfl⟩)
        go_ret3
        exact ⟨ret3 (by rw [sliceR_no hJ.out]) (by rw [sliceR_no hJ.out]) (by rw [sliceR_no hJ.out]), rfl⟩
    · have hJ : Hid (¬ SOk n a hi lo) := fun k => h1 k.2.1
      go_enter Tryz.func111, Tryz.ntmps111
      go_wp2_with (go_at_call 89; refine (c_WordOkS _ _ _).mono ?_; rintro e w' ⟨rfl, rfl⟩)
      go_ret3
      exact ⟨ret3 (by rw [sliceR_no hJ.out]) (by rw [sliceR_no hJ.out]) (by rw [sliceR_no hJ.out]), rfl⟩
  · have hda : decide (WOk n a) = false := decide_eq_false ha
    have hJ : Hid (¬ SOk n a hi lo) := fun k => ha k.1
    clear ha
    go_enter Tryz.func111, Tryz.ntmps111
    go_wp2_with (go_at_call 89; refine (c_WordOkS _ _ _).mono ?_; rintro e w' ⟨rfl, rfl⟩)
    go_ret3
    exact ⟨ret3 (by rw [sliceR_no hJ.out]) (by rw [sliceR_no hJ.out]) (by rw [sliceR_no hJ.out]), rfl⟩

theorem c_WordGrowI (n a more : Int) (s : Bool) (w : World) :
    Calls Tryz.prog 148 #[.int .i64 n, .int .i64 a, .int .i64 more, .bool s] w fun e w' => e = .returned (.tuple #[.int .i64 (growR n a more s).1, .int .i64 (growR n a more s).2.1, .bool (growR n a more s).2.2]) ∧ w' = w := by
  by_cases ha : WOk n a
  · have hda : decide (WOk n a) = true := decide_eq_true ha
    have hn1 := ha.1; have hn2 := ha.2.1
    have hw0 : wrap64 (16 - n) = 16 - n := IntWalk.wrap64_in _ (by omega)
    by_cases h1 : 0 ≤ more
    · by_cases h2 : more ≤ 16 - n
      · have hJ : Hid (GOk n a more) := ⟨ha, h1, h2⟩
        have hw1 : wrap64 (n + more) = n + more := IntWalk.wrap64_in _ (by omega)
        cases s
        · go_enter Tryz.func148, Tryz.ntmps148
          go_wp2_with (first | (go_at_call 118; refine (c_WordOkI _ _ _).mono ?_; rintro e w' ⟨rfl, rfl⟩) | (go_at_call 159; refine (c_WordSignedI _ _ _).mono ?_; rintro e w' ⟨rfl, rfl⟩) | (go_at_call 158; refine (c_WordFromI _ _ _).mono ?_; rintro e w' ⟨rfl, rfl⟩))
          go_ret3
          exact ⟨ret3 (by rw [growR_ok _ hJ.out]; rfl) (by rw [growR_ok _ hJ.out]) (by rw [growR_ok _ hJ.out]), rfl⟩
        · go_enter Tryz.func148, Tryz.ntmps148
          go_wp2_with (first | (go_at_call 118; refine (c_WordOkI _ _ _).mono ?_; rintro e w' ⟨rfl, rfl⟩) | (go_at_call 159; refine (c_WordSignedI _ _ _).mono ?_; rintro e w' ⟨rfl, rfl⟩) | (go_at_call 158; refine (c_WordFromI _ _ _).mono ?_; rintro e w' ⟨rfl, rfl⟩))
          go_ret3
          exact ⟨ret3 (by rw [growR_ok _ hJ.out]; rfl) (by rw [growR_ok _ hJ.out]) (by rw [growR_ok _ hJ.out]), rfl⟩
      · have hJ : Hid (¬ GOk n a more) := fun k => h2 k.2.2
        go_enter Tryz.func148, Tryz.ntmps148
        go_wp2_with (first | (go_at_call 118; refine (c_WordOkI _ _ _).mono ?_; rintro e w' ⟨rfl, rfl⟩) | (go_at_call 159; refine (c_WordSignedI _ _ _).mono ?_; rintro e w' ⟨rfl, rfl⟩) | (go_at_call 158; refine (c_WordFromI _ _ _).mono ?_; rintro e w' ⟨rfl, rfl⟩))
        go_ret3
        exact ⟨ret3 (by rw [growR_no s hJ.out]) (by rw [growR_no s hJ.out]) (by rw [growR_no s hJ.out]), rfl⟩
    · have hJ : Hid (¬ GOk n a more) := fun k => h1 k.2.1
      go_enter Tryz.func148, Tryz.ntmps148
      go_wp2_with (first | (go_at_call 118; refine (c_WordOkI _ _ _).mono ?_; rintro e w' ⟨rfl, rfl⟩) | (go_at_call 159; refine (c_WordSignedI _ _ _).mono ?_; rintro e w' ⟨rfl, rfl⟩) | (go_at_call 158; refine (c_WordFromI _ _ _).mono ?_; rintro e w' ⟨rfl, rfl⟩))
      go_ret3
      exact ⟨ret3 (by rw [growR_no s hJ.out]) (by rw [growR_no s hJ.out]) (by rw [growR_no s hJ.out]), rfl⟩
  · have hda : decide (WOk n a) = false := decide_eq_false ha
    have hJ : Hid (¬ GOk n a more) := fun k => ha k.1
    clear ha
    go_enter Tryz.func148, Tryz.ntmps148
    go_wp2_with (first | (go_at_call 118; refine (c_WordOkI _ _ _).mono ?_; rintro e w' ⟨rfl, rfl⟩) | (go_at_call 159; refine (c_WordSignedI _ _ _).mono ?_; rintro e w' ⟨rfl, rfl⟩) | (go_at_call 158; refine (c_WordFromI _ _ _).mono ?_; rintro e w' ⟨rfl, rfl⟩))
    go_ret3
    exact ⟨ret3 (by rw [growR_no s hJ.out]) (by rw [growR_no s hJ.out]) (by rw [growR_no s hJ.out]), rfl⟩

theorem c_WordGrowS (n a more : Int) (s : Bool) (w : World) :
    Calls Tryz.prog 112 #[.int .i64 n, .int .i64 a, .int .i64 more, .bool s] w fun e w' => e = .returned (.tuple #[.int .i64 (growR n a more s).1, .int .i64 (growR n a more s).2.1, .bool (growR n a more s).2.2]) ∧ w' = w := by
  by_cases ha : WOk n a
  · have hda : decide (WOk n a) = true := decide_eq_true ha
    have hn1 := ha.1; have hn2 := ha.2.1
    have hw0 : wrap64 (16 - n) = 16 - n := IntWalk.wrap64_in _ (by omega)
    by_cases h1 : 0 ≤ more
    · by_cases h2 : more ≤ 16 - n
      · have hJ : Hid (GOk n a more) := ⟨ha, h1, h2⟩
        have hw1 : wrap64 (n + more) = n + more := IntWalk.wrap64_in _ (by omega)
        cases s
        · go_enter Tryz.func112, Tryz.ntmps112
          go_wp2_with (first | (go_at_call 89; refine (c_WordOkS _ _ _).mono ?_; rintro e w' ⟨rfl, rfl⟩) | (go_at_call 133; refine (c_WordSignedS _ _ _).mono ?_; rintro e w' ⟨rfl, rfl⟩) | (go_at_call 132; refine (c_WordFromS _ _ _).mono ?_; rintro e w' ⟨rfl, rfl⟩))
          go_ret3
          exact ⟨ret3 (by rw [growR_ok _ hJ.out]; rfl) (by rw [growR_ok _ hJ.out]) (by rw [growR_ok _ hJ.out]), rfl⟩
        · go_enter Tryz.func112, Tryz.ntmps112
          go_wp2_with (first | (go_at_call 89; refine (c_WordOkS _ _ _).mono ?_; rintro e w' ⟨rfl, rfl⟩) | (go_at_call 133; refine (c_WordSignedS _ _ _).mono ?_; rintro e w' ⟨rfl, rfl⟩) | (go_at_call 132; refine (c_WordFromS _ _ _).mono ?_; rintro e w' ⟨rfl, rfl⟩))
          go_ret3
          exact ⟨ret3 (by rw [growR_ok _ hJ.out]; rfl) (by rw [growR_ok _ hJ.out]) (by rw [growR_ok _ hJ.out]), rfl⟩
      · have hJ : Hid (¬ GOk n a more) := fun k => h2 k.2.2
        go_enter Tryz.func112, Tryz.ntmps112
        go_wp2_with (first | (go_at_call 89; refine (c_WordOkS _ _ _).mono ?_; rintro e w' ⟨rfl, rfl⟩) | (go_at_call 133; refine (c_WordSignedS _ _ _).mono ?_; rintro e w' ⟨rfl, rfl⟩) | (go_at_call 132; refine (c_WordFromS _ _ _).mono ?_; rintro e w' ⟨rfl, rfl⟩))
        go_ret3
        exact ⟨ret3 (by rw [growR_no s hJ.out]) (by rw [growR_no s hJ.out]) (by rw [growR_no s hJ.out]), rfl⟩
    · have hJ : Hid (¬ GOk n a more) := fun k => h1 k.2.1
      go_enter Tryz.func112, Tryz.ntmps112
      go_wp2_with (first | (go_at_call 89; refine (c_WordOkS _ _ _).mono ?_; rintro e w' ⟨rfl, rfl⟩) | (go_at_call 133; refine (c_WordSignedS _ _ _).mono ?_; rintro e w' ⟨rfl, rfl⟩) | (go_at_call 132; refine (c_WordFromS _ _ _).mono ?_; rintro e w' ⟨rfl, rfl⟩))
      go_ret3
      exact ⟨ret3 (by rw [growR_no s hJ.out]) (by rw [growR_no s hJ.out]) (by rw [growR_no s hJ.out]), rfl⟩
  · have hda : decide (WOk n a) = false := decide_eq_false ha
    have hJ : Hid (¬ GOk n a more) := fun k => ha k.1
    clear ha
    go_enter Tryz.func112, Tryz.ntmps112
    go_wp2_with (first | (go_at_call 89; refine (c_WordOkS _ _ _).mono ?_; rintro e w' ⟨rfl, rfl⟩) | (go_at_call 133; refine (c_WordSignedS _ _ _).mono ?_; rintro e w' ⟨rfl, rfl⟩) | (go_at_call 132; refine (c_WordFromS _ _ _).mono ?_; rintro e w' ⟨rfl, rfl⟩))
    go_ret3
    exact ⟨ret3 (by rw [growR_no s hJ.out]) (by rw [growR_no s hJ.out]) (by rw [growR_no s hJ.out]), rfl⟩

end Go.Proofs.YtbkcecilbpngcaaGreat
