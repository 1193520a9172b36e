/-
  Parts: Cut, Ones, Bits, TwoI, Tab, shortened.
-/
import Derived.Test.YtlcgimadbpagfaaGreatZPaA
import Derived.Laws.EntriesVeiled
import Derived.Laws.Tables
import Derived.Deep.WholeRow
namespace Go.Proofs.YtlcgimadbpagfaaGreat
open Go.Lib
open Go.ChangeShapes Go.WideShapes Go.ChangeAt Go.RowKit
theorem ret3 {a a' b b' : Int} {c c' : Bool} (h1 : a = a') (h2 : b = b') (h3 : c = c') :
  Ending.returned (.tuple #[.int .i64 a, .int .i64 b, .bool c]) = Ending.returned (.tuple #[.int .i64 a', .int .i64 b', .bool c']) := by rw [h1, h2, h3]
def JOk (n a u b : Int) : Prop := WOk n a ∧ WOk u b ∧ n + u ≤ 16
instance (n a u b : Int) : Decidable (JOk n a u b) := by unfold JOk; infer_instance
def joinR (n a u b : Int) : Int × Int × Bool := if JOk n a u b then (a * 2 ^ u.toNat + b, n + u, true) else (0, 0, false)
theorem joinR_ok {n a u b : Int} (h : JOk n a u b) : joinR n a u b = (a * 2 ^ u.toNat + b, n + u, true) := if_pos h
theorem joinR_no {n a u b : Int} (h : ¬ JOk n a u b) : joinR n a u b = (0, 0, false) := if_neg h
def SOk (n a hi lo : Int) : Prop := WOk n a ∧ 0 ≤ lo ∧ lo ≤ hi ∧ hi < n
instance (n a hi lo : Int) : Decidable (SOk n a hi lo) := by unfold SOk; infer_instance
def sliceR (n a hi lo : Int) : Int × Int × Bool := if SOk n a hi lo then (a / 2 ^ lo.toNat % 2 ^ (hi - lo + 1).toNat, hi - lo + 1, true) else (0, 0, false)
theorem sliceR_ok {n a hi lo : Int} (h : SOk n a hi lo) : sliceR n a hi lo = (a / 2 ^ lo.toNat % 2 ^ (hi - lo + 1).toNat, hi - lo + 1, true) := if_pos h
theorem sliceR_no {n a hi lo : Int} (h : ¬ SOk n a hi lo) : sliceR n a hi lo = (0, 0, false) := if_neg h
def GOk (n a more : Int) : Prop := WOk n a ∧ 0 ≤ more ∧ more ≤ 16 - n
instance (n a more : Int) : Decidable (GOk n a more) := by unfold GOk; infer_instance
def growR (n a more : Int) (s : Bool) : Int × Int × Bool := if GOk n a more then (if s then frm (n + more) (sgn n a) else a, n + more, true) else (0, 0, false)
theorem growR_ok {n a more : Int} (s : Bool) (h : GOk n a more) : growR n a more s = (if s then frm (n + more) (sgn n a) else a, n + more, true) := if_pos h
theorem growR_no {n a more : Int} (s : Bool) (h : ¬ GOk n a more) : growR n a more s = (0, 0, false) := if_neg h
theorem join_or {a b u : Int} (ha : 0 ≤ a) (hab : a * 2 ^ u.toNat < 65536) (hb : 0 ≤ b) (hb2 : b < 2 ^ u.toNat) (hu : u ≤ 16) :
  bits .or .i64 (a * 2 ^ u.toNat) b = a * 2 ^ u.toNat + b := by
 have hp := p2_pos u.toNat
 have hle := p2_le hu
 rw [i64_or _ _ (Int.mul_nonneg ha (by omega)) hab hb (by omega)]
 have e1 : (a * 2 ^ u.toNat).toNat = 2 ^ u.toNat * a.toNat := by
  rw [Int.toNat_mul ha (by omega), Nat.mul_comm]; congr 1
 have hlt : b.toNat < 2 ^ u.toNat := by rw [← p2_cast] at hb2; omega
 rw [e1, ← Nat.two_pow_add_eq_or_of_lt hlt, Int.natCast_add, Int.natCast_mul, Int.toNat_of_nonneg ha, Int.toNat_of_nonneg hb, p2_cast, Int.mul_comm]
theorem join_bound {n a u b : Int} (h : JOk n a u b) : 0 ≤ a * 2 ^ u.toNat ∧ a * 2 ^ u.toNat + b < 2 ^ (n + u).toNat ∧ (2 : Int) ^ (n + u).toNat ≤ 65536 := by
 obtain ⟨⟨h1, h2, h3, h4⟩, ⟨k1, k2, k3, k4⟩, hj⟩ := h
 have hp := p2_pos u.toNat
 have e : (n + u).toNat = n.toNat + u.toNat := by omega
 refine ⟨Int.mul_nonneg h3 (by omega), ?_, p2_le hj⟩
 rw [e, p2_add]
 have : (a + 1) * 2 ^ u.toNat ≤ 2 ^ n.toNat * 2 ^ u.toNat := Int.mul_le_mul_of_nonneg_right (by omega) (by omega)
 rw [Int.add_mul] at this
 omega
theorem c_WordJoinI (n a u b : Int) (w : World) :
  Calls Tryz.prog 174 #[.int .i64 n, .int .i64 a, .int .i64 u, .int .i64 b] w fun e w' => e = .returned (.tuple #[.int .i64 (joinR n a u b).1, .int .i64 (joinR n a u b).2.1, .bool (joinR n a u b).2.2]) ∧ w' = w := by
 by_cases ha : WOk n a
 ·have hda : decide (WOk n a) = true := decide_eq_true ha
  by_cases hb : WOk u b
  ·have hdb : decide (WOk u b) = true := decide_eq_true hb
   have hn1 := ha.1; have hn2 := ha.2.1; have hu1 := hb.1; have hu2 := hb.2.1
   have hw : wrap64 (n + u) = n + u := IntWalk.wrap64_in _ (by omega)
   by_cases hj : n + u ≤ 16
   ·have hJ : Hid (JOk n a u b) := ⟨ha, hb, hj⟩
    have hB : Hid _ := join_bound hJ.out
    have hv : wrap64 (a * 2 ^ u.toNat) = a * 2 ^ u.toNat := by
     have := hB.out; have := hb.2.2.1; exact IntWalk.wrap64_in _ (by omega)
    have hor : bits .or .i64 (a * 2 ^ u.toNat) b = a * 2 ^ u.toNat + b := by
     have := hB.out; have := hb.2.2.1; exact join_or ha.2.2.1 (by omega) hb.2.2.1 hb.2.2.2 hu2
    go_enter Tryz.func174, Tryz.ntmps174
    go_wp2_with (go_at_call 148; refine (c_WordOkI _ _ _).mono ?_; rintro e w' ⟨rfl, rfl⟩)
    go_ret3
    exact ⟨ret3 (by rw [joinR_ok hJ.out]) (by rw [joinR_ok hJ.out]) (by rw [joinR_ok hJ.out]), rfl⟩
   ·have hJ : Hid (¬ JOk n a u b) := fun k => hj k.2.2
    go_enter Tryz.func174, Tryz.ntmps174
    go_wp2_with (go_at_call 148; refine (c_WordOkI _ _ _).mono ?_; rintro e w' ⟨rfl, rfl⟩)
    go_ret3
    exact ⟨ret3 (by rw [joinR_no hJ.out]) (by rw [joinR_no hJ.out]) (by rw [joinR_no hJ.out]), rfl⟩
  ·have hdb : decide (WOk u b) = false := decide_eq_false hb
   have hJ : Hid (¬ JOk n a u b) := fun k => hb k.2.1
   clear ha hb
   go_enter Tryz.func174, Tryz.ntmps174
   go_wp2_with (go_at_call 148; refine (c_WordOkI _ _ _).mono ?_; rintro e w' ⟨rfl, rfl⟩)
   go_ret3
   exact ⟨ret3 (by rw [joinR_no hJ.out]) (by rw [joinR_no hJ.out]) (by rw [joinR_no hJ.out]), rfl⟩
 ·have hda : decide (WOk n a) = false := decide_eq_false ha
  have hJ : Hid (¬ JOk n a u b) := fun k => ha k.1
  clear ha
  go_enter Tryz.func174, Tryz.ntmps174
  go_wp2_with (go_at_call 148; refine (c_WordOkI _ _ _).mono ?_; rintro e w' ⟨rfl, rfl⟩)
  go_ret3
  exact ⟨ret3 (by rw [joinR_no hJ.out]) (by rw [joinR_no hJ.out]) (by rw [joinR_no hJ.out]), rfl⟩
theorem c_WordJoinS (n a u b : Int) (w : World) :
  Calls Tryz.prog 123 #[.int .i64 n, .int .i64 a, .int .i64 u, .int .i64 b] w fun e w' => e = .returned (.tuple #[.int .i64 (joinR n a u b).1, .int .i64 (joinR n a u b).2.1, .bool (joinR n a u b).2.2]) ∧ w' = w := by
 by_cases ha : WOk n a
 ·have hda : decide (WOk n a) = true := decide_eq_true ha
  by_cases hb : WOk u b
  ·have hdb : decide (WOk u b) = true := decide_eq_true hb
   have hn1 := ha.1; have hn2 := ha.2.1; have hu1 := hb.1; have hu2 := hb.2.1
   have hw : wrap64 (n + u) = n + u := IntWalk.wrap64_in _ (by omega)
   by_cases hj : n + u ≤ 16
   ·have hJ : Hid (JOk n a u b) := ⟨ha, hb, hj⟩
    have hB : Hid _ := join_bound hJ.out
    have hv : wrap64 (a * 2 ^ u.toNat) = a * 2 ^ u.toNat := by
     have := hB.out; have := hb.2.2.1; exact IntWalk.wrap64_in _ (by omega)
    have hor : wrap64 (a * 2 ^ u.toNat + b) = a * 2 ^ u.toNat + b := by
     have := hB.out; have := hb.2.2.1; exact IntWalk.wrap64_in _ (by omega)
    go_enter Tryz.func123, Tryz.ntmps123
    go_wp2_with (go_at_call 121; refine (c_WordOkS _ _ _).mono ?_; rintro e w' ⟨rfl, rfl⟩)
    go_ret3
    exact ⟨ret3 (by rw [joinR_ok hJ.out, hor]) (by rw [joinR_ok hJ.out]) (by rw [joinR_ok hJ.out]), rfl⟩
   ·have hJ : Hid (¬ JOk n a u b) := fun k => hj k.2.2
    go_enter Tryz.func123, Tryz.ntmps123
    go_wp2_with (go_at_call 121; refine (c_WordOkS _ _ _).mono ?_; rintro e w' ⟨rfl, rfl⟩)
    go_ret3
    exact ⟨ret3 (by rw [joinR_no hJ.out]) (by rw [joinR_no hJ.out]) (by rw [joinR_no hJ.out]), rfl⟩
  ·have hdb : decide (WOk u b) = false := decide_eq_false hb
   have hJ : Hid (¬ JOk n a u b) := fun k => hb k.2.1
   clear ha hb
   go_enter Tryz.func123, Tryz.ntmps123
   go_wp2_with (go_at_call 121; refine (c_WordOkS _ _ _).mono ?_; rintro e w' ⟨rfl, rfl⟩)
   go_ret3
   exact ⟨ret3 (by rw [joinR_no hJ.out]) (by rw [joinR_no hJ.out]) (by rw [joinR_no hJ.out]), rfl⟩
 ·have hda : decide (WOk n a) = false := decide_eq_false ha
  have hJ : Hid (¬ JOk n a u b) := fun k => ha k.1
  clear ha
  go_enter Tryz.func123, Tryz.ntmps123
  go_wp2_with (go_at_call 121; refine (c_WordOkS _ _ _).mono ?_; rintro e w' ⟨rfl, rfl⟩)
  go_ret3
  exact ⟨ret3 (by rw [joinR_no hJ.out]) (by rw [joinR_no hJ.out]) (by rw [joinR_no hJ.out]), rfl⟩
theorem c_WordSliceI (n a hi lo : Int) (w : World) :
  Calls Tryz.prog 175 #[.int .i64 n, .int .i64 a, .int .i64 hi, .int .i64 lo] w fun e w' => e = .returned (.tuple #[.int .i64 (sliceR n a hi lo).1, .int .i64 (sliceR n a hi lo).2.1, .bool (sliceR n a hi lo).2.2]) ∧ w' = w := by
 by_cases ha : WOk n a
 ·have hda : decide (WOk n a) = true := decide_eq_true ha
  have hn1 := ha.1; have hn2 := ha.2.1
  by_cases h1 : 0 ≤ lo
  ·by_cases h2 : lo ≤ hi
   ·by_cases h3 : hi < n
    ·have hJ : Hid (SOk n a hi lo) := ⟨ha, h1, h2, h3⟩
     have hw1 : wrap64 (hi - lo) = hi - lo := IntWalk.wrap64_in _ (by omega)
     have hw2 : wrap64 (hi - lo + 1) = hi - lo + 1 := IntWalk.wrap64_in _ (by omega)
     have hw3 := wrap_p2 (n := hi - lo + 1) (by omega)
     have hne : ¬ (2 : Int) ^ (hi - lo + 1).toNat = 0 := by have := p2_pos (hi - lo + 1).toNat; omega
     go_enter Tryz.func175, Tryz.ntmps175
     go_wp2_with (first | (go_at_call 148; refine (c_WordOkI _ _ _).mono ?_; rintro e w' ⟨rfl, rfl⟩) | (go_at_call 197; refine (c_WordFromI _ _ _).mono ?_; rintro e w' ⟨rfl, rfl⟩))
     go_ret3
     exact ⟨ret3 (by rw [sliceR_ok hJ.out, frm_eq _ (by omega) (by omega)]) (by rw [sliceR_ok hJ.out]) (by rw [sliceR_ok hJ.out]), rfl⟩
    ·have hJ : Hid (¬ SOk n a hi lo) := fun k => h3 k.2.2.2
     go_enter Tryz.func175, Tryz.ntmps175
     go_wp2_with (first | (go_at_call 148; refine (c_WordOkI _ _ _).mono ?_; rintro e w' ⟨rfl, rfl⟩) | (go_at_call 197; refine (c_WordFromI _ _ _).mono ?_; rintro e w' ⟨rfl, rfl⟩))
     go_ret3
     exact ⟨ret3 (by rw [sliceR_no hJ.out]) (by rw [sliceR_no hJ.out]) (by rw [sliceR_no hJ.out]), rfl⟩
   ·have hJ : Hid (¬ SOk n a hi lo) := fun k => h2 k.2.2.1
    go_enter Tryz.func175, Tryz.ntmps175
    go_wp2_with (first | (go_at_call 148; refine (c_WordOkI _ _ _).mono ?_; rintro e w' ⟨rfl, rfl⟩) | (go_at_call 197; refine (c_WordFromI _ _ _).mono ?_; rintro e w' ⟨rfl, rfl⟩))
    go_ret3
    exact ⟨ret3 (by rw [sliceR_no hJ.out]) (by rw [sliceR_no hJ.out]) (by rw [sliceR_no hJ.out]), rfl⟩
  ·have hJ : Hid (¬ SOk n a hi lo) := fun k => h1 k.2.1
   go_enter Tryz.func175, Tryz.ntmps175
   go_wp2_with (first | (go_at_call 148; refine (c_WordOkI _ _ _).mono ?_; rintro e w' ⟨rfl, rfl⟩) | (go_at_call 197; refine (c_WordFromI _ _ _).mono ?_; rintro e w' ⟨rfl, rfl⟩))
   go_ret3
   exact ⟨ret3 (by rw [sliceR_no hJ.out]) (by rw [sliceR_no hJ.out]) (by rw [sliceR_no hJ.out]), rfl⟩
 ·have hda : decide (WOk n a) = false := decide_eq_false ha
  have hJ : Hid (¬ SOk n a hi lo) := fun k => ha k.1
  clear ha
  go_enter Tryz.func175, Tryz.ntmps175
  go_wp2_with (first | (go_at_call 148; refine (c_WordOkI _ _ _).mono ?_; rintro e w' ⟨rfl, rfl⟩) | (go_at_call 197; refine (c_WordFromI _ _ _).mono ?_; rintro e w' ⟨rfl, rfl⟩))
  go_ret3
  exact ⟨ret3 (by rw [sliceR_no hJ.out]) (by rw [sliceR_no hJ.out]) (by rw [sliceR_no hJ.out]), rfl⟩
theorem c_WordSliceS (n a hi lo : Int) (w : World) :
  Calls Tryz.prog 124 #[.int .i64 n, .int .i64 a, .int .i64 hi, .int .i64 lo] w fun e w' => e = .returned (.tuple #[.int .i64 (sliceR n a hi lo).1, .int .i64 (sliceR n a hi lo).2.1, .bool (sliceR n a hi lo).2.2]) ∧ w' = w := by
 by_cases ha : WOk n a
 ·have hda : decide (WOk n a) = true := decide_eq_true ha
  have hn1 := ha.1; have hn2 := ha.2.1
  by_cases h1 : 0 ≤ lo
  ·by_cases h2 : lo ≤ hi
   ·by_cases h3 : hi < n
    ·have hJ : Hid (SOk n a hi lo) := ⟨ha, h1, h2, h3⟩
     have hw1 : wrap64 (hi - lo) = hi - lo := IntWalk.wrap64_in _ (by omega)
     have hw2 : wrap64 (hi - lo + 1) = hi - lo + 1 := IntWalk.wrap64_in _ (by omega)
     have hw3 := wrap_p2 (n := hi - lo + 1) (by omega)
     have hne : ¬ (2 : Int) ^ (hi - lo + 1).toNat = 0 := by have := p2_pos (hi - lo + 1).toNat; omega
     go_enter Tryz.func124, Tryz.ntmps124
     go_wp2_with (go_at_call 121; refine (c_WordOkS _ _ _).mono ?_; rintro e w' ⟨rfl, rfl⟩)
     go_ret3
     exact ⟨ret3 (by rw [sliceR_ok hJ.out]; exact Int.tmod_eq_emod_of_nonneg (Int.ediv_nonneg ha.2.2.1 (Int.le_of_lt (p2_pos _)))) (by rw [sliceR_ok hJ.out]) (by rw [sliceR_ok hJ.out]), rfl⟩
    ·have hJ : Hid (¬ SOk n a hi lo) := fun k => h3 k.2.2.2
     go_enter Tryz.func124, Tryz.ntmps124
     go_wp2_with (go_at_call 121; refine (c_WordOkS _ _ _).mono ?_; rintro e w' ⟨rfl, rfl⟩)
     go_ret3
     exact ⟨ret3 (by rw [sliceR_no hJ.out]) (by rw [sliceR_no hJ.out]) (by rw [sliceR_no hJ.out]), rfl⟩
   ·have hJ : Hid (¬ SOk n a hi lo) := fun k => h2 k.2.2.1
    go_enter Tryz.func124, Tryz.ntmps124
    go_wp2_with (go_at_call 121; refine (c_WordOkS _ _ _).mono ?_; rintro e w' ⟨rfl, rfl⟩)
    go_ret3
    exact ⟨ret3 (by rw [sliceR_no hJ.out]) (by rw [sliceR_no hJ.out]) (by rw [sliceR_no hJ.out]), rfl⟩
  ·have hJ : Hid (¬ SOk n a hi lo) := fun k => h1 k.2.1
   go_enter Tryz.func124, Tryz.ntmps124
   go_wp2_with (go_at_call 121; refine (c_WordOkS _ _ _).mono ?_; rintro e w' ⟨rfl, rfl⟩)
   go_ret3
   exact ⟨ret3 (by rw [sliceR_no hJ.out]) (by rw [sliceR_no hJ.out]) (by rw [sliceR_no hJ.out]), rfl⟩
 ·have hda : decide (WOk n a) = false := decide_eq_false ha
  have hJ : Hid (¬ SOk n a hi lo) := fun k => ha k.1
  clear ha
  go_enter Tryz.func124, Tryz.ntmps124
  go_wp2_with (go_at_call 121; refine (c_WordOkS _ _ _).mono ?_; rintro e w' ⟨rfl, rfl⟩)
  go_ret3
  exact ⟨ret3 (by rw [sliceR_no hJ.out]) (by rw [sliceR_no hJ.out]) (by rw [sliceR_no hJ.out]), rfl⟩
theorem c_WordGrowI (n a more : Int) (s : Bool) (w : World) :
  Calls Tryz.prog 176 #[.int .i64 n, .int .i64 a, .int .i64 more, .bool s] w fun e w' => e = .returned (.tuple #[.int .i64 (growR n a more s).1, .int .i64 (growR n a more s).2.1, .bool (growR n a more s).2.2]) ∧ w' = w := by
 by_cases ha : WOk n a
 ·have hda : decide (WOk n a) = true := decide_eq_true ha
  have hn1 := ha.1; have hn2 := ha.2.1
  have hw0 : wrap64 (16 - n) = 16 - n := IntWalk.wrap64_in _ (by omega)
  by_cases h1 : 0 ≤ more
  ·by_cases h2 : more ≤ 16 - n
   ·have hJ : Hid (GOk n a more) := ⟨ha, h1, h2⟩
    have hw1 : wrap64 (n + more) = n + more := IntWalk.wrap64_in _ (by omega)
    cases s
    ·go_enter Tryz.func176, Tryz.ntmps176
     go_wp2_with (first | (go_at_call 148; refine (c_WordOkI _ _ _).mono ?_; rintro e w' ⟨rfl, rfl⟩) | (go_at_call 198; refine (c_WordSignedI _ _ _).mono ?_; rintro e w' ⟨rfl, rfl⟩) | (go_at_call 197; refine (c_WordFromI _ _ _).mono ?_; rintro e w' ⟨rfl, rfl⟩))
     go_ret3
     exact ⟨ret3 (by rw [growR_ok _ hJ.out]; rfl) (by rw [growR_ok _ hJ.out]) (by rw [growR_ok _ hJ.out]), rfl⟩
    ·go_enter Tryz.func176, Tryz.ntmps176
     go_wp2_with (first | (go_at_call 148; refine (c_WordOkI _ _ _).mono ?_; rintro e w' ⟨rfl, rfl⟩) | (go_at_call 198; refine (c_WordSignedI _ _ _).mono ?_; rintro e w' ⟨rfl, rfl⟩) | (go_at_call 197; refine (c_WordFromI _ _ _).mono ?_; rintro e w' ⟨rfl, rfl⟩))
     go_ret3
     exact ⟨ret3 (by rw [growR_ok _ hJ.out]; rfl) (by rw [growR_ok _ hJ.out]) (by rw [growR_ok _ hJ.out]), rfl⟩
   ·have hJ : Hid (¬ GOk n a more) := fun k => h2 k.2.2
    go_enter Tryz.func176, Tryz.ntmps176
    go_wp2_with (first | (go_at_call 148; refine (c_WordOkI _ _ _).mono ?_; rintro e w' ⟨rfl, rfl⟩) | (go_at_call 198; refine (c_WordSignedI _ _ _).mono ?_; rintro e w' ⟨rfl, rfl⟩) | (go_at_call 197; refine (c_WordFromI _ _ _).mono ?_; rintro e w' ⟨rfl, rfl⟩))
    go_ret3
    exact ⟨ret3 (by rw [growR_no s hJ.out]) (by rw [growR_no s hJ.out]) (by rw [growR_no s hJ.out]), rfl⟩
  ·have hJ : Hid (¬ GOk n a more) := fun k => h1 k.2.1
   go_enter Tryz.func176, Tryz.ntmps176
   go_wp2_with (first | (go_at_call 148; refine (c_WordOkI _ _ _).mono ?_; rintro e w' ⟨rfl, rfl⟩) | (go_at_call 198; refine (c_WordSignedI _ _ _).mono ?_; rintro e w' ⟨rfl, rfl⟩) | (go_at_call 197; refine (c_WordFromI _ _ _).mono ?_; rintro e w' ⟨rfl, rfl⟩))
   go_ret3
   exact ⟨ret3 (by rw [growR_no s hJ.out]) (by rw [growR_no s hJ.out]) (by rw [growR_no s hJ.out]), rfl⟩
 ·have hda : decide (WOk n a) = false := decide_eq_false ha
  have hJ : Hid (¬ GOk n a more) := fun k => ha k.1
  clear ha
  go_enter Tryz.func176, Tryz.ntmps176
  go_wp2_with (first | (go_at_call 148; refine (c_WordOkI _ _ _).mono ?_; rintro e w' ⟨rfl, rfl⟩) | (go_at_call 198; refine (c_WordSignedI _ _ _).mono ?_; rintro e w' ⟨rfl, rfl⟩) | (go_at_call 197; refine (c_WordFromI _ _ _).mono ?_; rintro e w' ⟨rfl, rfl⟩))
  go_ret3
  exact ⟨ret3 (by rw [growR_no s hJ.out]) (by rw [growR_no s hJ.out]) (by rw [growR_no s hJ.out]), rfl⟩
theorem c_WordGrowS (n a more : Int) (s : Bool) (w : World) :
  Calls Tryz.prog 125 #[.int .i64 n, .int .i64 a, .int .i64 more, .bool s] w fun e w' => e = .returned (.tuple #[.int .i64 (growR n a more s).1, .int .i64 (growR n a more s).2.1, .bool (growR n a more s).2.2]) ∧ w' = w := by
 by_cases ha : WOk n a
 ·have hda : decide (WOk n a) = true := decide_eq_true ha
  have hn1 := ha.1; have hn2 := ha.2.1
  have hw0 : wrap64 (16 - n) = 16 - n := IntWalk.wrap64_in _ (by omega)
  by_cases h1 : 0 ≤ more
  ·by_cases h2 : more ≤ 16 - n
   ·have hJ : Hid (GOk n a more) := ⟨ha, h1, h2⟩
    have hw1 : wrap64 (n + more) = n + more := IntWalk.wrap64_in _ (by omega)
    cases s
    ·go_enter Tryz.func125, Tryz.ntmps125
     go_wp2_with (first | (go_at_call 121; refine (c_WordOkS _ _ _).mono ?_; rintro e w' ⟨rfl, rfl⟩) | (go_at_call 163; refine (c_WordSignedS _ _ _).mono ?_; rintro e w' ⟨rfl, rfl⟩) | (go_at_call 162; refine (c_WordFromS _ _ _).mono ?_; rintro e w' ⟨rfl, rfl⟩))
     go_ret3
     exact ⟨ret3 (by rw [growR_ok _ hJ.out]; rfl) (by rw [growR_ok _ hJ.out]) (by rw [growR_ok _ hJ.out]), rfl⟩
    ·go_enter Tryz.func125, Tryz.ntmps125
     go_wp2_with (first | (go_at_call 121; refine (c_WordOkS _ _ _).mono ?_; rintro e w' ⟨rfl, rfl⟩) | (go_at_call 163; refine (c_WordSignedS _ _ _).mono ?_; rintro e w' ⟨rfl, rfl⟩) | (go_at_call 162; refine (c_WordFromS _ _ _).mono ?_; rintro e w' ⟨rfl, rfl⟩))
     go_ret3
     exact ⟨ret3 (by rw [growR_ok _ hJ.out]; rfl) (by rw [growR_ok _ hJ.out]) (by rw [growR_ok _ hJ.out]), rfl⟩
   ·have hJ : Hid (¬ GOk n a more) := fun k => h2 k.2.2
    go_enter Tryz.func125, Tryz.ntmps125
    go_wp2_with (first | (go_at_call 121; refine (c_WordOkS _ _ _).mono ?_; rintro e w' ⟨rfl, rfl⟩) | (go_at_call 163; refine (c_WordSignedS _ _ _).mono ?_; rintro e w' ⟨rfl, rfl⟩) | (go_at_call 162; refine (c_WordFromS _ _ _).mono ?_; rintro e w' ⟨rfl, rfl⟩))
    go_ret3
    exact ⟨ret3 (by rw [growR_no s hJ.out]) (by rw [growR_no s hJ.out]) (by rw [growR_no s hJ.out]), rfl⟩
  ·have hJ : Hid (¬ GOk n a more) := fun k => h1 k.2.1
   go_enter Tryz.func125, Tryz.ntmps125
   go_wp2_with (first | (go_at_call 121; refine (c_WordOkS _ _ _).mono ?_; rintro e w' ⟨rfl, rfl⟩) | (go_at_call 163; refine (c_WordSignedS _ _ _).mono ?_; rintro e w' ⟨rfl, rfl⟩) | (go_at_call 162; refine (c_WordFromS _ _ _).mono ?_; rintro e w' ⟨rfl, rfl⟩))
   go_ret3
   exact ⟨ret3 (by rw [growR_no s hJ.out]) (by rw [growR_no s hJ.out]) (by rw [growR_no s hJ.out]), rfl⟩
 ·have hda : decide (WOk n a) = false := decide_eq_false ha
  have hJ : Hid (¬ GOk n a more) := fun k => ha k.1
  clear ha
  go_enter Tryz.func125, Tryz.ntmps125
  go_wp2_with (first | (go_at_call 121; refine (c_WordOkS _ _ _).mono ?_; rintro e w' ⟨rfl, rfl⟩) | (go_at_call 163; refine (c_WordSignedS _ _ _).mono ?_; rintro e w' ⟨rfl, rfl⟩) | (go_at_call 162; refine (c_WordFromS _ _ _).mono ?_; rintro e w' ⟨rfl, rfl⟩))
  go_ret3
  exact ⟨ret3 (by rw [growR_no s hJ.out]) (by rw [growR_no s hJ.out]) (by rw [growR_no s hJ.out]), rfl⟩
end Go.Proofs.YtlcgimadbpagfaaGreat
namespace Go.Proofs.YtlcgimadbpagfaaGreat
open Go.Lib
open Go.ChangeShapes Go.WideShapes Go.ChangeAt Go.RowKit
def ones : Nat → Int → Int
 | 0, _ => 0
 | k + 1, a => ones k a + a / 2 ^ k % 2
theorem ones_bound (k : Nat) (a : Int) : 0 ≤ ones k a ∧ ones k a ≤ k := by
 induction k with
 | zero => exact ⟨Int.le_refl _, Int.le_refl _⟩
 | succ k ih => unfold ones; omega
theorem mod_succ (k : Nat) (a : Int) : a % 2 ^ (k + 1) = a % 2 ^ k + 2 ^ k * (a / 2 ^ k % 2) := by
 have hp := p2_pos k
 rw [Int.pow_succ]
 have e1 := Int.emod_add_mul_ediv a (2 ^ k)
 have e2 := Int.emod_add_mul_ediv (a / 2 ^ k) 2
 have e3 := Int.emod_add_mul_ediv a (2 ^ k * 2)
 rw [← Int.ediv_ediv_of_nonneg (by omega)] at e3
 have e4 : (2 : Int) ^ k * 2 * (a / 2 ^ k / 2) = 2 ^ k * (2 * (a / 2 ^ k / 2)) := Int.mul_assoc ..
 have e5 : (2 : Int) ^ k * (a / 2 ^ k) = 2 ^ k * (a / 2 ^ k % 2) + 2 ^ k * (2 * (a / 2 ^ k / 2)) := by
  rw [← Int.mul_add, e2]
 omega
theorem ones_all (k : Nat) (a : Int) : ones k a = k ↔ a % 2 ^ k = 2 ^ k - 1 := by
 induction k with
 | zero => simp [ones]
 | succ k ih =>
  have hb := ones_bound k a
  have hp := p2_pos k
  have h0 := Int.emod_nonneg a (b := 2 ^ k) (by omega)
  have h1 := Int.emod_lt_of_pos a hp
  unfold ones
  rw [mod_succ, Int.pow_succ]
  rcases (by omega : a / 2 ^ k % 2 = 0 ∨ a / 2 ^ k % 2 = 1) with h | h
  ·rw [h]; omega
  ·rw [h]; omega
theorem all_iff {n a : Int} (h : WOk n a) : ones n.toNat a = n ↔ a = 2 ^ n.toNat - 1 := by
 have := ones_all n.toNat a
 rw [Int.emod_eq_of_lt h.2.2.1 h.2.2.2] at this
 rw [← this]
 have := h.1
 omega
theorem c_l1Ones (n a : Int) (h0 : 0 ≤ a) (h1 : 1 ≤ n) (h2 : n ≤ 16) (w : World) :
  Calls Tryz.prog 164 #[.int .i64 n, .int .i64 a] w fun e w' => e = .returned (.int .i64 (ones n.toNat a)) ∧ w' = w := by
 go_enter Tryz.func164, Tryz.ntmps164
 go_wp2
 go_loop [5, 6] (fun t i => ∃ k : Nat, (k : Int) ≤ n ∧ i = .int .i64 k ∧ t = .int .i64 (ones k a)) (fun _ i => (n - intOf i).toNat)
 case atStart => exact ⟨0, by omega, rfl, rfl⟩
 case round =>
  obtain ⟨k, hk, rfl, rfl⟩ := hrel
  have hb := ones_bound k a
  have hw : wrap64 (ones k a + a / 2 ^ k % 2) = ones k a + a / 2 ^ k % 2 := IntWalk.wrap64_in _ (by omega)
  go_wp2_with (go_at_call 193; refine (c_l1Bit _ _ h0 (by omega) (by omega) _).mono ?_; rintro e w' ⟨rfl, rfl⟩)
  ·go_round
   case rel => exact ⟨k + 1, by omega, by go_num, rfl⟩
   case measure => simp [intOf]; omega
  ·have hkn : k = n.toNat := by omega
   subst hkn
   go_ret
   exact ⟨rfl, rfl⟩
theorem xor_bits {x y : Int} (hx : x = 0 ∨ x = 1) (hy : y = 0 ∨ y = 1) : bits .xor .i64 x y = (x + y) % 2 := by
 rcases hx with rfl | rfl <;> rcases hy with rfl | rfl <;> rfl
theorem ones_odd (k : Nat) (a : Int) : bits .xor .i64 (ones k a % 2) (a / 2 ^ k % 2) = ones (k + 1) a % 2 := by
 rw [xor_bits (by omega) (by omega)]
 show _ = (ones k a + a / 2 ^ k % 2) % 2
 omega
theorem c_wordOdd (n a : Int) (h1 : 1 ≤ n) (h2 : n ≤ 16) (w : World) :
  Calls Tryz.prog 212 #[.int .i64 n, .int .i64 a] w fun e w' => e = .returned (.int .i64 (ones n.toNat a % 2)) ∧ w' = w := by
 go_enter Tryz.func212, Tryz.ntmps212
 go_wp2
 go_loop [5, 6, 8] (fun t _ i => ∃ k : Nat, (k : Int) ≤ n ∧ i = .int .i64 k ∧ t = .int .i64 (ones k a % 2)) (fun _ _ i => (n - intOf i).toNat)
 case atStart => exact ⟨0, by omega, rfl, rfl⟩
 case round =>
  obtain ⟨k, hk, rfl, rfl⟩ := hrel
  have hw := ones_odd k a
  go_wp2_with (go_at_call 241; refine (c_wordBit _ _ (by omega) (by omega) _).mono ?_; rintro e w' ⟨rfl, rfl⟩)
  ·go_round
   case rel => exact ⟨k + 1, by omega, by go_num, rfl⟩
   case measure => simp [intOf]; omega
  ·have hkn : k = n.toNat := by omega
   subst hkn
   go_ret
   exact ⟨rfl, rfl⟩
def oneTab : Array Value := #[.nilFunc, .bool false, .func (.func 208) #[] #[], .bool false, .func (.func 209) #[] #[], .bool false, .func (.func 210) #[] #[], .bool true, .func (.func 211) #[] #[], .bool true, .func (.func 212) #[] #[], .bool true]
theorem c_oneRules (w : World) :
  Calls Tryz.prog 194 #[] w fun e w' => e = .returned (.agg oneTab) ∧ Below w.heap.size w w' := by
 go_enter Tryz.func194, Tryz.ntmps194
 go_wp2
 exact bodyPost_ret (v := .agg oneTab) (results_cell_row rfl _ _ w.heap.size 205 oneTab (0, 0) _ rfl (heap_alloc_new _ _) Tryz.underlying205 rfl (by kernel_rfl)) rfl ⟨rfl, (Below.refl _ _).alloc (Nat.le_refl _) _⟩
def oneR (kind n a : Int) : Int × Int × Bool :=
 if WOk n a then
  if kind = 1 then (2 ^ n.toNat - 1 - a, n, true)
  else if kind = 2 then (frm n (-a), n, true)
  else if kind = 3 then ((decide (0 < a)).toNat, 1, true)
  else if kind = 4 then ((decide (a = 2 ^ n.toNat - 1)).toNat, 1, true)
  else if kind = 5 then (ones n.toNat a % 2, 1, true)
  else (0, 0, false)
 else (0, 0, false)
theorem c_wordNot (n a : Int) (h : WOk n a) (w : World) :
  Calls Tryz.prog 208 #[.int .i64 n, .int .i64 a] w fun e w' => e = .returned (.int .i64 (2 ^ n.toNat - 1 - a)) ∧ w' = w := by
 have hw : wrap64 (2 ^ n.toNat - 1 - a) = 2 ^ n.toNat - 1 - a := by
  have := h.lt; have := h.2.2.1; have := p2_le h.2.1; have := p2_pos n.toNat; exact IntWalk.wrap64_in _ (by omega)
 go_enter Tryz.func208, Tryz.ntmps208
 go_wp2_with (go_at_call 187; refine (c_wordTop _ h.1 h.2.1 _).mono ?_; rintro e w' ⟨rfl, rfl⟩)
 go_ret
 exact ⟨ret_int hw, rfl⟩
theorem c_wordNeg (n a : Int) (h : WOk n a) (w : World) :
  Calls Tryz.prog 209 #[.int .i64 n, .int .i64 a] w fun e w' => e = .returned (.int .i64 (frm n (-a))) ∧ w' = w := by
 have hw : wrap64 (-a) = -a := by have := h.lt; have := h.2.2.1; exact IntWalk.wrap64_in _ (by omega)
 go_enter Tryz.func209, Tryz.ntmps209
 go_wp2_with (go_at_call 197; refine (c_WordFromI _ _ _).mono ?_; rintro e w' ⟨rfl, rfl⟩)
 go_ret
 exact ⟨rfl, rfl⟩
theorem c_wordAny (n a : Int) (h : WOk n a) (w : World) :
  Calls Tryz.prog 210 #[.int .i64 n, .int .i64 a] w fun e w' => e = .returned (.int .i64 (decide (0 < a)).toNat) ∧ w' = w := by
 have h0 := h.2.2.1
 clear h
 go_enter Tryz.func210, Tryz.ntmps210
 go_wp2_with (go_at_call 177; refine (c_wordFlag _ _).mono ?_; rintro e w' ⟨rfl, rfl⟩)
 go_ret
 exact ⟨ret_int (by congr 2; rw [Bool.eq_iff_iff]; simp; omega), rfl⟩
theorem c_wordAll (n a : Int) (h : WOk n a) (w : World) :
  Calls Tryz.prog 211 #[.int .i64 n, .int .i64 a] w fun e w' => e = .returned (.int .i64 (decide (a = 2 ^ n.toNat - 1)).toNat) ∧ w' = w := by
 go_enter Tryz.func211, Tryz.ntmps211
 go_wp2_with (first | (go_at_call 177; refine (c_wordFlag _ _).mono ?_; rintro e w' ⟨rfl, rfl⟩) | (go_at_call 187; refine (c_wordTop _ h.1 h.2.1 _).mono ?_; rintro e w' ⟨rfl, rfl⟩))
 go_ret
 exact ⟨ret_int (by congr 2), rfl⟩
theorem ixOne1 (w : World) : (Instr.index 205 (.agg oneTab) (.int .i64 1)).run Tryz.prog w = .ok (.agg #[.func (.func 208) #[] #[], .bool false]) w := by kernel_rfl
theorem c_WordOneI1 (n a : Int) (h : WOk n a) (w : World) :
  Calls Tryz.prog 171 #[.int .i64 1, .int .i64 n, .int .i64 a] w fun e w' => e = .returned (.tuple #[.int .i64 (2 ^ n.toNat - 1 - a), .int .i64 n, .bool true]) ∧ Below w.heap.size w w' := by
 have hd : decide (WOk n a) = true := decide_eq_true h
 have ix := ixOne1
 go_enter Tryz.func171, Tryz.ntmps171
 go_wp2_with (first | (go_at_call 148; refine (c_WordOkI _ _ _).mono ?_; rintro e w' ⟨rfl, rfl⟩) | (go_at_call 194; refine (c_oneRules _).mono ?_; rintro e w' ⟨rfl, hB⟩))
 go_quiet (first | (go_at_call 208; exact Calls.quiet_of_same (c_wordNot _ _ h _)) | (go_at_call 195; exact Calls.quiet_of_same (c_ruleWidth _ _ _)))
 go_wp2
 go_ret3
 exact ⟨rfl, below_drewN (hB.alloc hB.size _) _⟩
theorem ixOne2 (w : World) : (Instr.index 205 (.agg oneTab) (.int .i64 2)).run Tryz.prog w = .ok (.agg #[.func (.func 209) #[] #[], .bool false]) w := by kernel_rfl
theorem c_WordOneI2 (n a : Int) (h : WOk n a) (w : World) :
  Calls Tryz.prog 171 #[.int .i64 2, .int .i64 n, .int .i64 a] w fun e w' => e = .returned (.tuple #[.int .i64 (frm n (-a)), .int .i64 n, .bool true]) ∧ Below w.heap.size w w' := by
 have hd : decide (WOk n a) = true := decide_eq_true h
 have ix := ixOne2
 go_enter Tryz.func171, Tryz.ntmps171
 go_wp2_with (first | (go_at_call 148; refine (c_WordOkI _ _ _).mono ?_; rintro e w' ⟨rfl, rfl⟩) | (go_at_call 194; refine (c_oneRules _).mono ?_; rintro e w' ⟨rfl, hB⟩))
 go_quiet (first | (go_at_call 209; exact Calls.quiet_of_same (c_wordNeg _ _ h _)) | (go_at_call 195; exact Calls.quiet_of_same (c_ruleWidth _ _ _)))
 go_wp2
 go_ret3
 exact ⟨rfl, below_drewN (hB.alloc hB.size _) _⟩
theorem ixOne3 (w : World) : (Instr.index 205 (.agg oneTab) (.int .i64 3)).run Tryz.prog w = .ok (.agg #[.func (.func 210) #[] #[], .bool true]) w := by kernel_rfl
theorem c_WordOneI3 (n a : Int) (h : WOk n a) (w : World) :
  Calls Tryz.prog 171 #[.int .i64 3, .int .i64 n, .int .i64 a] w fun e w' => e = .returned (.tuple #[.int .i64 ((decide (0 < a)).toNat), .int .i64 1, .bool true]) ∧ Below w.heap.size w w' := by
 have hd : decide (WOk n a) = true := decide_eq_true h
 have ix := ixOne3
 go_enter Tryz.func171, Tryz.ntmps171
 go_wp2_with (first | (go_at_call 148; refine (c_WordOkI _ _ _).mono ?_; rintro e w' ⟨rfl, rfl⟩) | (go_at_call 194; refine (c_oneRules _).mono ?_; rintro e w' ⟨rfl, hB⟩))
 go_quiet (first | (go_at_call 210; exact Calls.quiet_of_same (c_wordAny _ _ h _)) | (go_at_call 195; exact Calls.quiet_of_same (c_ruleWidth _ _ _)))
 go_wp2
 go_ret3
 exact ⟨rfl, below_drewN (hB.alloc hB.size _) _⟩
theorem ixOne4 (w : World) : (Instr.index 205 (.agg oneTab) (.int .i64 4)).run Tryz.prog w = .ok (.agg #[.func (.func 211) #[] #[], .bool true]) w := by kernel_rfl
theorem c_WordOneI4 (n a : Int) (h : WOk n a) (w : World) :
  Calls Tryz.prog 171 #[.int .i64 4, .int .i64 n, .int .i64 a] w fun e w' => e = .returned (.tuple #[.int .i64 ((decide (a = 2 ^ n.toNat - 1)).toNat), .int .i64 1, .bool true]) ∧ Below w.heap.size w w' := by
 have hd : decide (WOk n a) = true := decide_eq_true h
 have ix := ixOne4
 go_enter Tryz.func171, Tryz.ntmps171
 go_wp2_with (first | (go_at_call 148; refine (c_WordOkI _ _ _).mono ?_; rintro e w' ⟨rfl, rfl⟩) | (go_at_call 194; refine (c_oneRules _).mono ?_; rintro e w' ⟨rfl, hB⟩))
 go_quiet (first | (go_at_call 211; exact Calls.quiet_of_same (c_wordAll _ _ h _)) | (go_at_call 195; exact Calls.quiet_of_same (c_ruleWidth _ _ _)))
 go_wp2
 go_ret3
 exact ⟨rfl, below_drewN (hB.alloc hB.size _) _⟩
theorem ixOne5 (w : World) : (Instr.index 205 (.agg oneTab) (.int .i64 5)).run Tryz.prog w = .ok (.agg #[.func (.func 212) #[] #[], .bool true]) w := by kernel_rfl
theorem c_WordOneI5 (n a : Int) (h : WOk n a) (w : World) :
  Calls Tryz.prog 171 #[.int .i64 5, .int .i64 n, .int .i64 a] w fun e w' => e = .returned (.tuple #[.int .i64 (ones n.toNat a % 2), .int .i64 1, .bool true]) ∧ Below w.heap.size w w' := by
 have hd : decide (WOk n a) = true := decide_eq_true h
 have ix := ixOne5
 go_enter Tryz.func171, Tryz.ntmps171
 go_wp2_with (first | (go_at_call 148; refine (c_WordOkI _ _ _).mono ?_; rintro e w' ⟨rfl, rfl⟩) | (go_at_call 194; refine (c_oneRules _).mono ?_; rintro e w' ⟨rfl, hB⟩))
 go_quiet (first | (go_at_call 212; exact Calls.quiet_of_same (c_wordOdd _ _ h.1 h.2.1 _)) | (go_at_call 195; exact Calls.quiet_of_same (c_ruleWidth _ _ _)))
 go_wp2
 go_ret3
 exact ⟨rfl, below_drewN (hB.alloc hB.size _) _⟩
theorem c_WordOneI (kind n a : Int) (w : World) :
  Calls Tryz.prog 171 #[.int .i64 kind, .int .i64 n, .int .i64 a] w fun e w' => e = .returned (.tuple #[.int .i64 (oneR kind n a).1, .int .i64 (oneR kind n a).2.1, .bool (oneR kind n a).2.2]) ∧ Below w.heap.size w w' := by
 by_cases h : WOk n a
 ·by_cases hk : 1 ≤ kind ∧ kind ≤ 5
  ·rcases (by omega : kind = 1 ∨ kind = 2 ∨ kind = 3 ∨ kind = 4 ∨ kind = 5) with rfl | rfl | rfl | rfl | rfl
   ·refine (c_WordOneI1 n a h w).mono ?_; rintro e w' ⟨rfl, hB⟩; exact ⟨by unfold oneR; rw [if_pos h]; rfl, hB⟩
   ·refine (c_WordOneI2 n a h w).mono ?_; rintro e w' ⟨rfl, hB⟩; exact ⟨by unfold oneR; rw [if_pos h]; rfl, hB⟩
   ·refine (c_WordOneI3 n a h w).mono ?_; rintro e w' ⟨rfl, hB⟩; exact ⟨by unfold oneR; rw [if_pos h]; rfl, hB⟩
   ·refine (c_WordOneI4 n a h w).mono ?_; rintro e w' ⟨rfl, hB⟩; exact ⟨by unfold oneR; rw [if_pos h]; rfl, hB⟩
   ·refine (c_WordOneI5 n a h w).mono ?_; rintro e w' ⟨rfl, hB⟩; exact ⟨by unfold oneR; rw [if_pos h]; rfl, hB⟩
  ·have hr : Hid (oneR kind n a = (0, 0, false)) := by
    show oneR kind n a = (0, 0, false)
    unfold oneR; rw [if_pos h, if_neg (by omega), if_neg (by omega), if_neg (by omega), if_neg (by omega), if_neg (by omega)]
   clear h
   by_cases hk1 : kind < 1
   ·go_enter Tryz.func171, Tryz.ntmps171
    go_wp2_with fail
    go_ret3
    exact ⟨ret3 (by rw [hr.out]) (by rw [hr.out]) (by rw [hr.out]), Below.refl _ _⟩
   ·have hk2 : 5 < kind := by omega
    go_enter Tryz.func171, Tryz.ntmps171
    go_wp2_with fail
    go_ret3
    exact ⟨ret3 (by rw [hr.out]) (by rw [hr.out]) (by rw [hr.out]), Below.refl _ _⟩
 ·have hr : Hid (oneR kind n a = (0, 0, false)) := by show oneR kind n a = (0, 0, false); unfold oneR; rw [if_neg h]
  have hd : decide (WOk n a) = false := decide_eq_false h
  clear h
  by_cases hk1 : kind < 1
  ·go_enter Tryz.func171, Tryz.ntmps171
   go_wp2_with fail
   go_ret3
   exact ⟨ret3 (by rw [hr.out]) (by rw [hr.out]) (by rw [hr.out]), Below.refl _ _⟩
  ·by_cases hk2 : 5 < kind
   ·go_enter Tryz.func171, Tryz.ntmps171
    go_wp2_with fail
    go_ret3
    exact ⟨ret3 (by rw [hr.out]) (by rw [hr.out]) (by rw [hr.out]), Below.refl _ _⟩
   ·go_enter Tryz.func171, Tryz.ntmps171
    go_wp2_with (go_at_call 148; refine (c_WordOkI _ _ _).mono ?_; rintro e w' ⟨rfl, rfl⟩)
    go_ret3
    exact ⟨ret3 (by rw [hr.out]) (by rw [hr.out]) (by rw [hr.out]), Below.refl _ _⟩
theorem c_WordOneS (kind n a : Int) (w : World) :
  Calls Tryz.prog 127 #[.int .i64 kind, .int .i64 n, .int .i64 a] w fun e w' => e = .returned (.tuple #[.int .i64 (oneR kind n a).1, .int .i64 (oneR kind n a).2.1, .bool (oneR kind n a).2.2]) ∧ w' = w := by
 by_cases h : WOk n a
 ·have hd : decide (WOk n a) = true := decide_eq_true h
  have hw0 := wrap_p2 h.2.1
  have hw1 := wrap_p2m h.2.1
  have hw2 : wrap64 (2 ^ n.toNat - 1 - a) = 2 ^ n.toNat - 1 - a := by
   have := h.lt; have := h.2.2.1; have := p2_le h.2.1; have := p2_pos n.toNat; exact IntWalk.wrap64_in _ (by omega)
  have hw3 : wrap64 (-a) = -a := by have := h.lt; have := h.2.2.1; exact IntWalk.wrap64_in _ (by omega)
  have h1 := h.1; have h2 := h.2.1
  have hal : Hid _ := all_iff h
  have hob : Hid _ := ones_bound n.toNat a
  by_cases hk : 1 ≤ kind ∧ kind ≤ 5
  ·rcases (by omega : kind = 1 ∨ kind = 2 ∨ kind = 3 ∨ kind = 4 ∨ kind = 5) with rfl | rfl | rfl | rfl | rfl
   ·have hr : Hid (oneR 1 n a = _) := if_pos h
    go_enter Tryz.func127, Tryz.ntmps127
    go_wp2_with (first | (go_at_call 121; refine (c_WordOkS _ _ _).mono ?_; rintro e w' ⟨rfl, rfl⟩) | (go_at_call 162; refine (c_WordFromS _ _ _).mono ?_; rintro e w' ⟨rfl, rfl⟩) | (go_at_call 122; refine (c_l1Yes _ _).mono ?_; rintro e w' ⟨rfl, rfl⟩) | (go_at_call 164; refine (c_l1Ones _ _ h.2.2.1 h.1 h.2.1 _).mono ?_; rintro e w' ⟨rfl, rfl⟩))
    go_ret3
    exact ⟨ret3 (by rw [hr.out]; exact hw2) (by rw [hr.out]; rfl) (by rw [hr.out]; rfl), rfl⟩
   ·have hr : Hid (oneR 2 n a = _) := if_pos h
    go_enter Tryz.func127, Tryz.ntmps127
    go_wp2_with (first | (go_at_call 121; refine (c_WordOkS _ _ _).mono ?_; rintro e w' ⟨rfl, rfl⟩) | (go_at_call 162; refine (c_WordFromS _ _ _).mono ?_; rintro e w' ⟨rfl, rfl⟩) | (go_at_call 122; refine (c_l1Yes _ _).mono ?_; rintro e w' ⟨rfl, rfl⟩) | (go_at_call 164; refine (c_l1Ones _ _ h.2.2.1 h.1 h.2.1 _).mono ?_; rintro e w' ⟨rfl, rfl⟩))
    go_ret3
    exact ⟨ret3 (by rw [hr.out]; rfl) (by rw [hr.out]; rfl) (by rw [hr.out]; rfl), rfl⟩
   ·have hr : Hid (oneR 3 n a = _) := if_pos h
    go_enter Tryz.func127, Tryz.ntmps127
    go_wp2_with (first | (go_at_call 121; refine (c_WordOkS _ _ _).mono ?_; rintro e w' ⟨rfl, rfl⟩) | (go_at_call 162; refine (c_WordFromS _ _ _).mono ?_; rintro e w' ⟨rfl, rfl⟩) | (go_at_call 122; refine (c_l1Yes _ _).mono ?_; rintro e w' ⟨rfl, rfl⟩) | (go_at_call 164; refine (c_l1Ones _ _ h.2.2.1 h.1 h.2.1 _).mono ?_; rintro e w' ⟨rfl, rfl⟩))
    go_ret3
    exact ⟨ret3 (by rw [hr.out]; rfl) (by rw [hr.out]; rfl) (by rw [hr.out]; rfl), rfl⟩
   ·have hr : Hid (oneR 4 n a = _) := if_pos h
    go_enter Tryz.func127, Tryz.ntmps127
    go_wp2_with (first | (go_at_call 121; refine (c_WordOkS _ _ _).mono ?_; rintro e w' ⟨rfl, rfl⟩) | (go_at_call 162; refine (c_WordFromS _ _ _).mono ?_; rintro e w' ⟨rfl, rfl⟩) | (go_at_call 122; refine (c_l1Yes _ _).mono ?_; rintro e w' ⟨rfl, rfl⟩) | (go_at_call 164; refine (c_l1Ones _ _ h.2.2.1 h.1 h.2.1 _).mono ?_; rintro e w' ⟨rfl, rfl⟩))
    go_ret3
    refine ⟨ret3 ?_ (by rw [hr.out]; rfl) (by rw [hr.out]; rfl), rfl⟩
    rw [hr.out]; show _ = (((decide (a = 2 ^ n.toNat - 1)).toNat : Nat) : Int)
    congr 2; rw [Bool.eq_iff_iff]; simp [hal.out]
   ·have hr : Hid (oneR 5 n a = _) := if_pos h
    go_enter Tryz.func127, Tryz.ntmps127
    go_wp2_with (first | (go_at_call 121; refine (c_WordOkS _ _ _).mono ?_; rintro e w' ⟨rfl, rfl⟩) | (go_at_call 162; refine (c_WordFromS _ _ _).mono ?_; rintro e w' ⟨rfl, rfl⟩) | (go_at_call 122; refine (c_l1Yes _ _).mono ?_; rintro e w' ⟨rfl, rfl⟩) | (go_at_call 164; refine (c_l1Ones _ _ h.2.2.1 h.1 h.2.1 _).mono ?_; rintro e w' ⟨rfl, rfl⟩))
    go_ret3
    refine ⟨ret3 ?_ (by rw [hr.out]; rfl) (by rw [hr.out]; rfl), rfl⟩
    rw [hr.out]; exact Int.tmod_eq_emod_of_nonneg hob.out.1
  ·have hr : Hid (oneR kind n a = (0, 0, false)) := by
    show oneR kind n a = (0, 0, false)
    unfold oneR; rw [if_pos h, if_neg (by omega), if_neg (by omega), if_neg (by omega), if_neg (by omega), if_neg (by omega)]
   have e1 : (kind == 1) = false := by simp; omega
   have e2 : (kind == 2) = false := by simp; omega
   have e3 : (kind == 3) = false := by simp; omega
   have e4 : (kind == 4) = false := by simp; omega
   have e5 : (kind == 5) = false := by simp; omega
   clear h hk
   go_enter Tryz.func127, Tryz.ntmps127
   go_wp2_with (go_at_call 121; refine (c_WordOkS _ _ _).mono ?_; rintro e w' ⟨rfl, rfl⟩)
   go_ret3
   exact ⟨ret3 (by rw [hr.out]) (by rw [hr.out]) (by rw [hr.out]), rfl⟩
 ·have hr : Hid (oneR kind n a = (0, 0, false)) := by show oneR kind n a = (0, 0, false); unfold oneR; rw [if_neg h]
  have hd : decide (WOk n a) = false := decide_eq_false h
  clear h
  go_enter Tryz.func127, Tryz.ntmps127
  go_wp2_with (go_at_call 121; refine (c_WordOkS _ _ _).mono ?_; rintro e w' ⟨rfl, rfl⟩)
  go_ret3
  exact ⟨ret3 (by rw [hr.out]) (by rw [hr.out]) (by rw [hr.out]), rfl⟩
end Go.Proofs.YtlcgimadbpagfaaGreat
namespace Go.Proofs.YtlcgimadbpagfaaGreat
open Go.Lib
open Go.RowKit
theorem mod_succ' (k : Nat) (a : Int) : a % 2 ^ (k + 1) = a % 2 ^ k + (a / 2 ^ k % 2) * 2 ^ k := by
 have hp := p2_pos k
 rw [Int.pow_succ]
 have e1 := Int.emod_add_mul_ediv a (2 ^ k)
 have e2 := Int.emod_add_mul_ediv (a / 2 ^ k) 2
 have e3 := Int.emod_add_mul_ediv a (2 ^ k * 2)
 rw [← Int.ediv_ediv_of_nonneg (by omega)] at e3
 have e4 : (2 : Int) ^ k * 2 * (a / 2 ^ k / 2) = 2 ^ k * (2 * (a / 2 ^ k / 2)) := Int.mul_assoc ..
 have e5 : (2 : Int) ^ k * (a / 2 ^ k) = 2 ^ k * (a / 2 ^ k % 2) + 2 ^ k * (2 * (a / 2 ^ k / 2)) := by
  rw [← Int.mul_add, e2]
 rw [Int.mul_comm (a / 2 ^ k % 2)]
 omega
theorem div_div_p2 (x : Int) (i j : Nat) : x / 2 ^ i / 2 ^ j = x / 2 ^ (i + j) := by
 rw [Int.ediv_ediv_of_nonneg (Int.le_of_lt (p2_pos i)), ← p2_add]
theorem bit_mod (x : Int) {n k : Nat} (h : k < n) : x % 2 ^ n / 2 ^ k % 2 = x / 2 ^ k % 2 := by
 obtain ⟨d, rfl⟩ : ∃ d, n = k + (d + 1) := ⟨n - k - 1, by omega⟩
 have e : x % 2 ^ (k + (d + 1)) = x + 2 ^ k * (-(2 * 2 ^ d * (x / 2 ^ (k + (d + 1))))) := by
  have := Int.emod_add_mul_ediv x (2 ^ (k + (d + 1)))
  rw [p2_add, Int.pow_succ] at this ⊢
  have e2 : (2 : Int) ^ k * (2 ^ d * 2) * (x / (2 ^ k * (2 ^ d * 2))) = 2 ^ k * (2 * 2 ^ d * (x / (2 ^ k * (2 ^ d * 2)))) := by
   rw [Int.mul_assoc, Int.mul_comm (2 ^ d) 2]
  rw [Int.mul_neg]
  omega
 rw [e, Int.add_mul_ediv_left _ _ (by have := p2_pos k; omega), Int.mul_assoc, ← Int.mul_neg]
 omega
theorem div_small {x : Int} {k : Nat} (h0 : 0 ≤ x) (h : x < 2 ^ k) : x / 2 ^ k = 0 := Int.ediv_eq_zero_of_lt h0 h
theorem mod_small {x : Int} {k : Nat} (h0 : 0 ≤ x) (h : x < 2 ^ k) : x % 2 ^ k = x := Int.emod_eq_of_lt h0 h
theorem mod_nonneg (x : Int) (k : Nat) : 0 ≤ x % 2 ^ k := Int.emod_nonneg _ (by have := p2_pos k; omega)
theorem mod_lt (x : Int) (k : Nat) : x % 2 ^ k < 2 ^ k := Int.emod_lt_of_pos _ (p2_pos k)
theorem nat_bit01 (x i : Nat) : x / 2 ^ i % 2 = (x.testBit i).toNat := by
 rw [Nat.testBit_eq_decide_div_mod_eq]
 rcases (by omega : x / 2 ^ i % 2 = 0 ∨ x / 2 ^ i % 2 = 1) with h | h <;> rw [h] <;> rfl
theorem int_bit01 {a : Int} (h : 0 ≤ a) (i : Nat) : a / 2 ^ i % 2 = ((a.toNat.testBit i).toNat : Int) := by
 rw [← nat_bit01, Int.natCast_emod, Int.natCast_ediv, p2_cast, Int.toNat_of_nonneg h]; rfl
theorem cast_bit01 (x i : Nat) : (x : Int) / 2 ^ i % 2 = ((x.testBit i).toNat : Int) := by
 rw [← nat_bit01, Int.natCast_emod, Int.natCast_ediv, p2_cast]; rfl
def vAnd (a b : Int) : Int := ((a.toNat &&& b.toNat : Nat) : Int)
def vOr (a b : Int) : Int := ((a.toNat ||| b.toNat : Nat) : Int)
def vXor (a b : Int) : Int := ((a.toNat ^^^ b.toNat : Nat) : Int)
theorem bit_vAnd {a b : Int} (ha : 0 ≤ a) (hb : 0 ≤ b) (i : Nat) : vAnd a b / 2 ^ i % 2 = (a / 2 ^ i % 2) * (b / 2 ^ i % 2) := by
 unfold vAnd; rw [cast_bit01, int_bit01 ha, int_bit01 hb, Nat.testBit_and]
 cases a.toNat.testBit i <;> cases b.toNat.testBit i <;> rfl
theorem bit_vOr {a b : Int} (ha : 0 ≤ a) (hb : 0 ≤ b) (i : Nat) : vOr a b / 2 ^ i % 2 = a / 2 ^ i % 2 + b / 2 ^ i % 2 - (a / 2 ^ i % 2) * (b / 2 ^ i % 2) := by
 unfold vOr; rw [cast_bit01, int_bit01 ha, int_bit01 hb, Nat.testBit_or]
 cases a.toNat.testBit i <;> cases b.toNat.testBit i <;> rfl
theorem bit_vXor {a b : Int} (ha : 0 ≤ a) (hb : 0 ≤ b) (i : Nat) : vXor a b / 2 ^ i % 2 = (a / 2 ^ i % 2 + b / 2 ^ i % 2) % 2 := by
 unfold vXor; rw [cast_bit01, int_bit01 ha, int_bit01 hb, Nat.testBit_xor]
 cases a.toNat.testBit i <;> cases b.toNat.testBit i <;> rfl
theorem toNat_lt_p2 {n a : Int} (h : WOk n a) : a.toNat < 2 ^ n.toNat := by
 have := h.2.2.2; have := h.2.2.1; rw [← p2_cast] at *; omega
theorem vAnd_ok {n a b : Int} (ha : WOk n a) (hb : WOk n b) : WOk n (vAnd a b) := by
 refine ⟨ha.1, ha.2.1, by unfold vAnd; omega, ?_⟩
 have := Nat.and_lt_two_pow (x := a.toNat) (toNat_lt_p2 hb); unfold vAnd; rw [← p2_cast]; omega
theorem vOr_ok {n a b : Int} (ha : WOk n a) (hb : WOk n b) : WOk n (vOr a b) := by
 refine ⟨ha.1, ha.2.1, by unfold vOr; omega, ?_⟩
 have := Nat.or_lt_two_pow (toNat_lt_p2 ha) (toNat_lt_p2 hb); unfold vOr; rw [← p2_cast]; omega
theorem vXor_ok {n a b : Int} (ha : WOk n a) (hb : WOk n b) : WOk n (vXor a b) := by
 refine ⟨ha.1, ha.2.1, by unfold vXor; omega, ?_⟩
 have := Nat.xor_lt_two_pow (toNat_lt_p2 ha) (toNat_lt_p2 hb); unfold vXor; rw [← p2_cast]; omega
def vDiv (n a b : Int) : Int := if b = 0 then 2 ^ n.toNat - 1 else a / b
def vRem (a b : Int) : Int := if b = 0 then a else a % b
def vSdiv (n a b : Int) : Int := if b = 0 then (if sgn n a < 0 then 1 else 2 ^ n.toNat - 1) else frm n ((sgn n a).tdiv (sgn n b))
def vSrem (n a b : Int) : Int := if b = 0 then a else frm n ((sgn n a).tmod (sgn n b))
theorem sgn_zero {n : Int} : sgn n 0 = 0 := by
 unfold sgn; split
 ·rw [if_neg (by have := p2_pos (n.toNat - 1); omega)]
 ·rfl
theorem sgn_ne_zero {n b : Int} (h : WOk n b) (hb : ¬ b = 0) : ¬ sgn n b = 0 := by
 intro e; have := frm_sgn h; rw [e, frm_eq _ h.1 h.2.1, Int.zero_emod] at this; exact hb this.symm
theorem mul_bound {a b : Int} (h1 : 0 ≤ a) (h2 : a < 65536) (h3 : 0 ≤ b) (h4 : b < 65536) : 0 ≤ a * b ∧ a * b < 4294967296 := by
 refine ⟨Int.mul_nonneg h1 h3, ?_⟩
 have : a * b ≤ 65535 * 65535 := Int.mul_le_mul (by omega) (by omega) h3 (by omega)
 omega
theorem div_bound {a b : Int} (h1 : 0 ≤ a) (h2 : a < 65536) (h3 : 0 ≤ b) : 0 ≤ a / b ∧ a / b < 65536 := by
 have := Int.ediv_nonneg h1 h3
 have := Int.ediv_le_self b h1
 omega
def vShl (n a b : Int) : Int := frm n (a * 2 ^ b.toNat)
def vShr (a b : Int) : Int := a / 2 ^ b.toNat
def vSar (n a b : Int) : Int := frm n (sgn n a / 2 ^ b.toNat)
theorem frm_wrap (n x : Int) : frm n (wrap64 x) = frm n x := by
 by_cases h : 1 ≤ n ∧ n ≤ 16
 ·rw [frm_eq _ h.1 h.2, frm_eq _ h.1 h.2]
  have hd : (2 : Int) ^ n.toNat ∣ 18446744073709551616 := by
   rw [show (18446744073709551616 : Int) = 2 ^ n.toNat * 2 ^ (64 - n.toNat) by rw [← p2_add, show n.toNat + (64 - n.toNat) = 64 by omega]; rfl]
   exact Int.dvd_mul_right ..
  have e : wrap64 x = x - 18446744073709551616 * ((x + 9223372036854775808) / 18446744073709551616) := by
   unfold wrap64; omega
  rw [e]
  obtain ⟨c, hc⟩ := hd
  rw [hc, Int.mul_assoc, Int.sub_mul_emod_self_left]
 ·unfold frm; rw [if_neg h, if_neg h]
theorem shl_min (n a : Int) (b : Nat) : frm n (a * 2 ^ min b 64) = frm n (a * 2 ^ b) := by
 by_cases hb : b ≤ 64
 ·rw [Nat.min_eq_left hb]
 ·rw [Nat.min_eq_right (by omega)]
  by_cases h : 1 ≤ n ∧ n ≤ 16
  ·rw [frm_eq _ h.1 h.2, frm_eq _ h.1 h.2]
   have z : ∀ j : Nat, n.toNat ≤ j → a * 2 ^ j % 2 ^ n.toNat = 0 := fun j hj => by
    rw [show j = n.toNat + (j - n.toNat) by omega, p2_add, ← Int.mul_assoc, Int.mul_comm a, Int.mul_assoc]
    exact Int.mul_emod_right ..
   rw [z 64 (by omega), z b (by omega)]
  ·unfold frm; rw [if_neg h, if_neg h]
theorem shr_min {a : Int} (h1 : -65536 ≤ a) (h2 : a < 65536) (b : Nat) : a / 2 ^ min b 64 = a / 2 ^ b := by
 by_cases hb : b ≤ 64
 ·rw [Nat.min_eq_left hb]
 ·rw [Nat.min_eq_right (by omega)]
  have e : ∀ j : Nat, 17 ≤ j → a / 2 ^ j = if 0 ≤ a then 0 else -1 := fun j hj => by
   have hp : (131072 : Int) ≤ 2 ^ j := by have := p2_mono (i := 17) (j := j) hj; simpa using this
   split
   ·exact Int.ediv_eq_zero_of_lt (by omega) (by omega)
   ·have := Int.add_mul_ediv_right a 1 (c := 2 ^ j) (by omega)
    rw [Int.ediv_eq_zero_of_lt (by omega) (by omega)] at this
    omega
  rw [e 64 (by omega), e b (by omega)]
theorem bit_shl {n a : Int} (b k : Nat) (h1 : 1 ≤ n) (h2 : n ≤ 16) (hk : k < n.toNat) : frm n (a * 2 ^ b) / 2 ^ k % 2 = if b ≤ k then a / 2 ^ (k - b) % 2 else 0 := by
 rw [frm_eq _ h1 h2, bit_mod _ hk]
 split
 ·rename_i h
  obtain ⟨d, rfl⟩ : ∃ d, k = b + d := ⟨k - b, by omega⟩
  rw [← div_div_p2, Int.mul_ediv_cancel _ (by have := p2_pos b; omega), Nat.add_sub_cancel_left]
 ·obtain ⟨d, rfl⟩ : ∃ d, b = k + (d + 1) := ⟨b - k - 1, by omega⟩
  rw [p2_add, Int.mul_comm (2 ^ k), ← Int.mul_assoc, Int.mul_ediv_cancel _ (by have := p2_pos k; omega), Int.pow_succ, ← Int.mul_assoc]
  omega
theorem bit_shr (a : Int) (b k : Nat) : a / 2 ^ b / 2 ^ k % 2 = a / 2 ^ (k + b) % 2 := by
 rw [div_div_p2, Nat.add_comm]
theorem bit_high {n a : Int} (h : WOk n a) {k : Nat} (hk : n.toNat ≤ k) : a / 2 ^ k % 2 = 0 := by
 rw [div_small h.2.2.1 (Int.lt_of_lt_of_le h.2.2.2 (p2_mono hk))]; rfl
theorem sgn_low {n a : Int} (h : WOk n a) {k : Nat} (hk : k < n.toNat) : sgn n a / 2 ^ k % 2 = a / 2 ^ k % 2 := by
 rw [← bit_mod (sgn n a) hk, ← frm_eq _ h.1 h.2.1, frm_sgn h]
theorem sgn_high {n a : Int} (h : WOk n a) {k : Nat} (hk : n.toNat ≤ k + 1) : sgn n a / 2 ^ k % 2 = a / 2 ^ (n.toNat - 1) % 2 := by
 have hr := sgn_range h
 have hp := p2_pos (n.toNat - 1)
 have hm : (2 : Int) ^ (n.toNat - 1) ≤ 2 ^ k := p2_mono (by omega)
 have h3 := h.2.2.1
 have h4 := h.2.2.2
 rw [p2_half h.1] at h4
 have es := sgn_eq h
 by_cases hc : 2 ^ (n.toNat - 1) ≤ a
 ·rw [if_pos hc, p2_half h.1] at es
  have e1 : a / 2 ^ (n.toNat - 1) = 1 := by
   have := Int.add_mul_ediv_right (a - 2 ^ (n.toNat - 1)) 1 (c := 2 ^ (n.toNat - 1)) (by omega)
   have z : (a - 2 ^ (n.toNat - 1)) / 2 ^ (n.toNat - 1) = 0 := Int.ediv_eq_zero_of_lt (by omega) (by omega)
   rw [z, show a - 2 ^ (n.toNat - 1) + 1 * 2 ^ (n.toNat - 1) = a by omega] at this
   omega
  have e2 : sgn n a / 2 ^ k = -1 := by
   have := Int.add_mul_ediv_right (sgn n a) 1 (c := 2 ^ k) (by omega)
   rw [Int.ediv_eq_zero_of_lt (by omega) (by omega)] at this
   omega
  rw [e1, e2]; rfl
 ·rw [if_neg hc] at es
  rw [es, Int.ediv_eq_zero_of_lt h3 (by omega), Int.ediv_eq_zero_of_lt h3 (by omega)]
theorem bit_sar {n a : Int} (h : WOk n a) (b k : Nat) (hk : k < n.toNat) : frm n (sgn n a / 2 ^ b) / 2 ^ k % 2 = if k + b < n.toNat then a / 2 ^ (k + b) % 2 else a / 2 ^ (n.toNat - 1) % 2 := by
 rw [frm_eq _ h.1 h.2.1, bit_mod _ hk, bit_shr]
 split
 ·rename_i hlt; exact sgn_low h hlt
 ·exact sgn_high h (by omega)
def turn (N r : Nat) (a : Int) : Int := (a % 2 ^ (N - r)) * 2 ^ r + a / 2 ^ (N - r)
def turnAt (N r k : Nat) (a : Int) : Int := if k ≤ N - r then (a % 2 ^ k) * 2 ^ r else (a % 2 ^ (N - r)) * 2 ^ r + (a % 2 ^ k) / 2 ^ (N - r)
theorem turnAt_zero (N r : Nat) (a : Int) : turnAt N r 0 a = 0 := by
 unfold turnAt; rw [if_pos (by omega)]; simp [Int.emod_one]
theorem turnAt_all {N r : Nat} (hr : r < N) {a : Int} (h0 : 0 ≤ a) (h1 : a < 2 ^ N) : turnAt N r N a = turn N r a := by
 unfold turnAt turn
 by_cases h : r = 0
 ·subst h; rw [if_pos (by omega), Nat.sub_zero, div_small h0 h1]; omega
 ·rw [if_neg (by omega), mod_small h0 h1]
def spot (N r k : Nat) : Nat := if k < N - r then k + r else k + r - N
theorem turnAt_succ {N r k : Nat} (hr : r < N) (a : Int) : turnAt N r (k + 1) a = turnAt N r k a + (a / 2 ^ k % 2) * 2 ^ spot N r k := by
 unfold turnAt spot
 by_cases h : k < N - r
 ·rw [if_pos (by omega), if_pos (by omega), if_pos h, mod_succ', Int.add_mul, Int.mul_assoc, ← p2_add]
 ·rw [if_neg (by omega), if_neg h, mod_succ']
  obtain ⟨d, rfl⟩ : ∃ d, k = (N - r) + d := ⟨k - (N - r), by omega⟩
  have e : N - r + d + r - N = d := by omega
  rw [e, p2_add, Int.mul_comm (2 ^ (N - r)) (2 ^ d), ← Int.mul_assoc, Int.add_mul_ediv_right _ _ (by have := p2_pos (N - r); omega)]
  by_cases hd : d = 0
  ·subst hd; rw [if_pos (by omega)]
   rw [Int.pow_zero, Int.one_mul, div_small (mod_nonneg ..) (mod_lt ..)]; omega
  ·rw [if_neg (by omega)]; omega
theorem turnAt_nonneg (N r k : Nat) (a : Int) : 0 ≤ turnAt N r k a := by
 have h1 : 0 ≤ (a % 2 ^ k) * 2 ^ r := Int.mul_nonneg (mod_nonneg ..) (Int.le_of_lt (p2_pos _))
 have h2 : 0 ≤ (a % 2 ^ (N - r)) * 2 ^ r := Int.mul_nonneg (mod_nonneg ..) (Int.le_of_lt (p2_pos _))
 have h3 : 0 ≤ (a % 2 ^ k) / 2 ^ (N - r) := Int.ediv_nonneg (mod_nonneg ..) (Int.le_of_lt (p2_pos _))
 unfold turnAt; split <;> omega
theorem mul_p2_lt {x : Int} {i j : Nat} (h : x < 2 ^ i) : x * 2 ^ j + 2 ^ j ≤ 2 ^ (i + j) := by
 have : (x + 1) * 2 ^ j ≤ 2 ^ i * 2 ^ j := Int.mul_le_mul_of_nonneg_right (by omega) (Int.le_of_lt (p2_pos j))
 rw [Int.add_mul, ← p2_add] at this; omega
theorem turnAt_lt {N r k : Nat} (hr : r < N) (hk : k ≤ N) (a : Int) : turnAt N r k a < 2 ^ N := by
 have hp := p2_pos r
 unfold turnAt
 split
 ·have h1 := mul_p2_lt (i := k) (j := r) (mod_lt a k)
  have : (2 : Int) ^ (k + r) ≤ 2 ^ N := p2_mono (by omega)
  omega
 ·have h1 := mul_p2_lt (i := N - r) (j := r) (mod_lt a (N - r))
  rw [show N - r + r = N by omega] at h1
  have h2 : (a % 2 ^ k) / 2 ^ (N - r) < 2 ^ r := by
   rw [Int.ediv_lt_iff_lt_mul (p2_pos _), ← p2_add, show r + (N - r) = N by omega]
   exact Int.lt_of_lt_of_le (mod_lt ..) (p2_mono hk)
  omega
theorem turnAt_free {N r k : Nat} (hr : r < N) (hk : k < N) (a : Int) : turnAt N r k a / 2 ^ spot N r k % 2 = 0 := by
 unfold turnAt spot
 by_cases h : k < N - r
 ·rw [if_pos (by omega), if_pos h]
  have h1 := mul_p2_lt (i := k) (j := r) (mod_lt a k)
  have hp := p2_pos r
  rw [div_small (Int.mul_nonneg (mod_nonneg ..) (by omega)) (by omega)]; rfl
 ·rw [if_neg h]
  obtain ⟨d, rfl⟩ : ∃ d, k = (N - r) + d := ⟨k - (N - r), by omega⟩
  rw [show N - r + d + r - N = d by omega]
  obtain ⟨q, hq⟩ : ∃ q, r = d + (q + 1) := ⟨r - d - 1, by omega⟩
  have e1 : (a % 2 ^ (N - r)) * 2 ^ r = (2 * (2 ^ q * (a % 2 ^ (N - r)))) * 2 ^ d := by
   rw [show (2 : Int) ^ r = 2 ^ q * 2 * 2 ^ d by rw [hq, p2_add, Int.pow_succ, Int.mul_comm]]
   rw [← Int.mul_assoc, ← Int.mul_assoc, Int.mul_comm _ (2 ^ q), Int.mul_comm _ 2]
  have hp := p2_pos d
  by_cases hd : d = 0
  ·subst hd
   rw [if_pos (by omega), Nat.add_zero, e1, Int.mul_ediv_cancel _ (by omega)]; omega
  ·rw [if_neg (by omega), e1, Int.add_comm, Int.add_mul_ediv_right _ _ (by omega)]
   have h2 : (a % 2 ^ (N - r + d)) / 2 ^ (N - r) < 2 ^ d := by
    rw [Int.ediv_lt_iff_lt_mul (p2_pos _), ← p2_add, Nat.add_comm d]
    exact mod_lt ..
   rw [div_small (Int.ediv_nonneg (mod_nonneg ..) (Int.le_of_lt (p2_pos _))) h2]; omega
theorem nat_or_free (x p : Nat) (h : x / 2 ^ p % 2 = 0) : x ||| 2 ^ p = x + 2 ^ p := by
 have h1 : x = 2 ^ (p + 1) * (x / 2 ^ (p + 1)) + x % 2 ^ p := by
  have := Nat.mod_pow_succ (x := x) (b := 2) (k := p)
  have e := Nat.div_add_mod x (2 ^ (p + 1))
  rw [h, Nat.mul_zero, Nat.add_zero] at this
  omega
 have hlt : x % 2 ^ p < 2 ^ p := Nat.mod_lt _ (Nat.pow_pos (by decide))
 have e2 : x % 2 ^ p ||| 2 ^ p = 2 ^ p + x % 2 ^ p := by
  have := Nat.two_pow_add_eq_or_of_lt hlt 1
  rw [Nat.mul_one] at this; rw [Nat.or_comm, ← this]
 have hlt2 : 2 ^ p + x % 2 ^ p < 2 ^ (p + 1) := by rw [Nat.pow_succ]; omega
 have hlt3 : x % 2 ^ p < 2 ^ (p + 1) := by rw [Nat.pow_succ]; omega
 generalize x / 2 ^ (p + 1) = q at h1
 generalize x % 2 ^ p = s at *
 subst h1
 rw [Nat.two_pow_add_eq_or_of_lt hlt3, Nat.or_assoc, e2, ← Nat.two_pow_add_eq_or_of_lt hlt2, ← Nat.two_pow_add_eq_or_of_lt hlt3]
 omega
theorem or_free {x c : Int} {p : Nat} (h0 : 0 ≤ x) (h1 : x < 65536) (hp : p < 16) (hf : x / 2 ^ p % 2 = 0) (hc : c = 0 ∨ c = 1) : bits .or .i64 x (c * 2 ^ p) = x + c * 2 ^ p := by
 have hp16 : (2 : Int) ^ p < 65536 := by
  have := p2_mono (i := p) (j := 15) (by omega); have e : (2 : Int) ^ 15 = 32768 := by decide
  omega
 have hpp := p2_pos p
 rcases hc with rfl | rfl
 ·rw [Int.zero_mul, i64_or _ _ h0 h1 (by omega) (by omega)]; simp; omega
 ·rw [Int.one_mul, i64_or _ _ h0 h1 (by omega) (by omega)]
  have e : ((2 : Int) ^ p).toNat = 2 ^ p := by rw [← p2_cast]; rfl
  have hf' : x.toNat / 2 ^ p % 2 = 0 := by
   have : ((x.toNat / 2 ^ p % 2 : Nat) : Int) = 0 := by
    rw [Int.natCast_emod, Int.natCast_ediv, p2_cast, Int.toNat_of_nonneg h0]; exact hf
   omega
  rw [e, nat_or_free _ _ hf', Int.natCast_add, p2_cast, Int.toNat_of_nonneg h0]
theorem turn_ok {N r : Nat} (hr : r < N) {a : Int} (h0 : 0 ≤ a) (h1 : a < 2 ^ N) : 0 ≤ turn N r a ∧ turn N r a < 2 ^ N := by
 rw [← turnAt_all hr h0 h1]; exact ⟨turnAt_nonneg .., turnAt_lt hr (Nat.le_refl _) a⟩
def vRol (n a b : Int) : Int := turn n.toNat (b % n).toNat a
def vRor (n a b : Int) : Int := turn n.toNat ((n - b % n) % n).toNat a
theorem spot_eq {n b : Int} {k : Nat} (h1 : 1 ≤ n) (hk : (k : Int) < n) : (((k : Int) + b) % n).toNat = spot n.toNat (b % n).toNat k := by
 have h2 := Int.emod_nonneg b (b := n) (by omega)
 have h3 := Int.emod_lt_of_pos b (b := n) (by omega)
 unfold spot
 rw [← Int.add_emod_emod]
 generalize b % n = r at *
 split
 ·rw [Int.emod_eq_of_lt (by omega) (by omega)]; omega
 ·have : ((k : Int) + r) % n = k + r - n := by
   rw [← Int.sub_emod_right, Int.emod_eq_of_lt (by omega) (by omega)]
  rw [this]; omega
end Go.Proofs.YtlcgimadbpagfaaGreat
namespace Go.Proofs.YtlcgimadbpagfaaGreat
open Go.Lib
open Go.ChangeShapes Go.WideShapes Go.ChangeAt Go.RowKit
set_option linter.unusedVariables false
theorem c_wordAnd (n a b : Int) (ha : WOk n a) (hb : WOk n b) (w : World) :
  Calls Tryz.prog 213 #[.int .i64 n, .int .i64 a, .int .i64 b] w fun e w' => e = .returned (.int .i64 (vAnd a b)) ∧ w' = w := by
 go_enter Tryz.func213, Tryz.ntmps213
 go_wp2
 go_ret
 exact ⟨ret_int (i64_and _ _ ha.2.2.1 ha.lt hb.2.2.1 hb.lt), rfl⟩
theorem c_wordOr (n a b : Int) (ha : WOk n a) (hb : WOk n b) (w : World) :
  Calls Tryz.prog 214 #[.int .i64 n, .int .i64 a, .int .i64 b] w fun e w' => e = .returned (.int .i64 (vOr a b)) ∧ w' = w := by
 go_enter Tryz.func214, Tryz.ntmps214
 go_wp2
 go_ret
 exact ⟨ret_int (i64_or _ _ ha.2.2.1 ha.lt hb.2.2.1 hb.lt), rfl⟩
theorem c_wordXor (n a b : Int) (ha : WOk n a) (hb : WOk n b) (w : World) :
  Calls Tryz.prog 215 #[.int .i64 n, .int .i64 a, .int .i64 b] w fun e w' => e = .returned (.int .i64 (vXor a b)) ∧ w' = w := by
 go_enter Tryz.func215, Tryz.ntmps215
 go_wp2
 go_ret
 exact ⟨ret_int (i64_xor _ _ ha.2.2.1 ha.lt hb.2.2.1 hb.lt), rfl⟩
theorem c_wordAdd (n a b : Int) (ha : WOk n a) (hb : WOk n b) (w : World) :
  Calls Tryz.prog 216 #[.int .i64 n, .int .i64 a, .int .i64 b] w fun e w' => e = .returned (.int .i64 (frm n (a + b))) ∧ w' = w := by
 clear ha hb
 go_enter Tryz.func216, Tryz.ntmps216
 go_wp2_with (first | (go_at_call 197; refine (c_WordFromI _ _ _).mono ?_; rintro e w' ⟨rfl, rfl⟩))
 go_ret
 exact ⟨ret_int (frm_wrap _ _), rfl⟩
theorem c_wordSub (n a b : Int) (ha : WOk n a) (hb : WOk n b) (w : World) :
  Calls Tryz.prog 217 #[.int .i64 n, .int .i64 a, .int .i64 b] w fun e w' => e = .returned (.int .i64 (frm n (a - b))) ∧ w' = w := by
 clear ha hb
 go_enter Tryz.func217, Tryz.ntmps217
 go_wp2_with (first | (go_at_call 197; refine (c_WordFromI _ _ _).mono ?_; rintro e w' ⟨rfl, rfl⟩))
 go_ret
 exact ⟨ret_int (frm_wrap _ _), rfl⟩
theorem c_wordMul (n a b : Int) (ha : WOk n a) (hb : WOk n b) (w : World) :
  Calls Tryz.prog 218 #[.int .i64 n, .int .i64 a, .int .i64 b] w fun e w' => e = .returned (.int .i64 (frm n (a * b))) ∧ w' = w := by
 clear ha hb
 go_enter Tryz.func218, Tryz.ntmps218
 go_wp2_with (first | (go_at_call 197; refine (c_WordFromI _ _ _).mono ?_; rintro e w' ⟨rfl, rfl⟩))
 go_ret
 exact ⟨ret_int (frm_wrap _ _), rfl⟩
theorem c_wordDiv (n a b : Int) (ha : WOk n a) (hb : WOk n b) (w : World) :
  Calls Tryz.prog 219 #[.int .i64 n, .int .i64 a, .int .i64 b] w fun e w' => e = .returned (.int .i64 (vDiv n a b)) ∧ w' = w := by
 by_cases h0 : b = 0
 ·subst h0
  go_enter Tryz.func219, Tryz.ntmps219
  go_wp2_with (first | (go_at_call 187; refine (c_wordTop _ ha.1 ha.2.1 _).mono ?_; rintro e w' ⟨rfl, rfl⟩))
  go_ret
  exact ⟨ret_int (if_pos rfl).symm, rfl⟩
 ·have hB : Hid _ := div_bound ha.2.2.1 ha.lt hb.2.2.1
  have h1 := ha.2.2.1
  have e : a.tdiv b = a / b := Int.tdiv_eq_ediv_of_nonneg h1
  have hw : wrap64 (a / b) = a / b := by have := hB.out; exact IntWalk.wrap64_in _ (by omega)
  clear ha hb
  go_enter Tryz.func219, Tryz.ntmps219
  go_wp2
  go_ret
  exact ⟨ret_int (by unfold vDiv; rw [if_neg h0]; exact hw), rfl⟩
theorem c_wordRem (n a b : Int) (ha : WOk n a) (hb : WOk n b) (w : World) :
  Calls Tryz.prog 220 #[.int .i64 n, .int .i64 a, .int .i64 b] w fun e w' => e = .returned (.int .i64 (vRem a b)) ∧ w' = w := by
 by_cases h0 : b = 0
 ·subst h0
  clear ha hb
  go_enter Tryz.func220, Tryz.ntmps220
  go_wp2
  go_ret
  exact ⟨ret_int (if_pos rfl).symm, rfl⟩
 ·have h1 := ha.2.2.1
  have e : a.tmod b = a % b := Int.tmod_eq_emod_of_nonneg h1
  clear ha hb
  go_enter Tryz.func220, Tryz.ntmps220
  go_wp2
  go_ret
  exact ⟨ret_int (by unfold vRem; rw [if_neg h0]), rfl⟩
theorem sign_neg {n a : Int} (h : WOk n a) : (a / 2 ^ (n.toNat - 1) % 2 = 1) ↔ sgn n a < 0 := by
 rw [sign_bit h, sgn_eq h]
 have := h.2.2.1; have := h.2.2.2; have := p2_half h.1
 split <;> omega
theorem c_wordSdiv (n a b : Int) (ha : WOk n a) (hb : WOk n b) (w : World) :
  Calls Tryz.prog 221 #[.int .i64 n, .int .i64 a, .int .i64 b] w fun e w' => e = .returned (.int .i64 (vSdiv n a b)) ∧ w' = w := by
 by_cases h0 : b = 0
 ·subst h0
  have hs : Hid _ := sign_neg ha
  have h1 := ha.1; have h2 := ha.2.1
  by_cases hc : a / 2 ^ (n.toNat - 1) % 2 = 1
  ·go_enter Tryz.func221, Tryz.ntmps221
   go_wp2_with (first | (go_at_call 236; refine (c_wordSign _ _ ha.1 ha.2.1 _).mono ?_; rintro e w' ⟨rfl, rfl⟩))
   go_ret
   exact ⟨ret_int (by unfold vSdiv; rw [if_pos rfl, if_pos (hs.out.mp hc)]), rfl⟩
  ·have hc' : (a / 2 ^ (n.toNat - 1) % 2 == 1) = false := by simp; omega
   go_enter Tryz.func221, Tryz.ntmps221
   go_wp2_with (first | (go_at_call 236; refine (c_wordSign _ _ ha.1 ha.2.1 _).mono ?_; rintro e w' ⟨rfl, rfl⟩) | (go_at_call 187; refine (c_wordTop _ ha.1 ha.2.1 _).mono ?_; rintro e w' ⟨rfl, rfl⟩))
   go_ret
   exact ⟨ret_int (by unfold vSdiv; rw [if_pos rfl, if_neg (fun k => hc (hs.out.mpr k))]), rfl⟩
 ·have hne : ¬ sgn n b = 0 := sgn_ne_zero hb h0
  have h0' : (b == 0) = false := by simp; exact h0
  clear ha hb
  go_enter Tryz.func221, Tryz.ntmps221
  go_wp2_with (first | (go_at_call 198; refine (c_WordSignedI _ _ _).mono ?_; rintro e w' ⟨rfl, rfl⟩) | (go_at_call 197; refine (c_WordFromI _ _ _).mono ?_; rintro e w' ⟨rfl, rfl⟩))
  go_ret
  exact ⟨ret_int (by unfold vSdiv; rw [if_neg h0]; first | exact frm_wrap _ _ | rfl), rfl⟩
theorem c_wordSrem (n a b : Int) (ha : WOk n a) (hb : WOk n b) (w : World) :
  Calls Tryz.prog 222 #[.int .i64 n, .int .i64 a, .int .i64 b] w fun e w' => e = .returned (.int .i64 (vSrem n a b)) ∧ w' = w := by
 by_cases h0 : b = 0
 ·subst h0
  clear ha hb
  go_enter Tryz.func222, Tryz.ntmps222
  go_wp2
  go_ret
  exact ⟨ret_int (by unfold vSrem; rw [if_pos rfl]), rfl⟩
 ·have hne : ¬ sgn n b = 0 := sgn_ne_zero hb h0
  have h0' : (b == 0) = false := by simp; exact h0
  clear ha hb
  go_enter Tryz.func222, Tryz.ntmps222
  go_wp2_with (first | (go_at_call 198; refine (c_WordSignedI _ _ _).mono ?_; rintro e w' ⟨rfl, rfl⟩) | (go_at_call 197; refine (c_WordFromI _ _ _).mono ?_; rintro e w' ⟨rfl, rfl⟩))
  go_ret
  exact ⟨ret_int (by unfold vSrem; rw [if_neg h0]), rfl⟩
theorem c_wordShl (n a b : Int) (ha : WOk n a) (hb : WOk n b) (w : World) :
  Calls Tryz.prog 223 #[.int .i64 n, .int .i64 a, .int .i64 b] w fun e w' => e = .returned (.int .i64 (vShl n a b)) ∧ w' = w := by
 have h3 := hb.2.2.1; have h4 := hb.lt
 clear ha hb
 go_enter Tryz.func223, Tryz.ntmps223
 go_wp2_with (first | (go_at_call 197; refine (c_WordFromI _ _ _).mono ?_; rintro e w' ⟨rfl, rfl⟩))
 go_ret
 exact ⟨ret_int (by unfold vShl; rw [frm_wrap, shl_min]), rfl⟩
theorem c_wordShr (n a b : Int) (ha : WOk n a) (hb : WOk n b) (w : World) :
  Calls Tryz.prog 224 #[.int .i64 n, .int .i64 a, .int .i64 b] w fun e w' => e = .returned (.int .i64 (vShr a b)) ∧ w' = w := by
 have h3 := hb.2.2.1; have h4 := hb.lt
 have h1 := ha.2.2.1; have h2 := ha.lt
 clear ha hb
 go_enter Tryz.func224, Tryz.ntmps224
 go_wp2
 go_ret
 exact ⟨ret_int (shr_min (by omega) h2 _), rfl⟩
theorem c_wordSar (n a b : Int) (ha : WOk n a) (hb : WOk n b) (w : World) :
  Calls Tryz.prog 225 #[.int .i64 n, .int .i64 a, .int .i64 b] w fun e w' => e = .returned (.int .i64 (vSar n a b)) ∧ w' = w := by
 have h3 := hb.2.2.1; have h4 := hb.lt
 have hs : Hid _ := sgn_bound n a
 clear ha hb
 go_enter Tryz.func225, Tryz.ntmps225
 go_wp2_with (first | (go_at_call 198; refine (c_WordSignedI _ _ _).mono ?_; rintro e w' ⟨rfl, rfl⟩) | (go_at_call 197; refine (c_WordFromI _ _ _).mono ?_; rintro e w' ⟨rfl, rfl⟩))
 go_ret
 exact ⟨ret_int (by have := hs.out; unfold vSar; rw [shr_min (by omega) (by omega)]), rfl⟩
theorem c_wordEq (n a b : Int) (ha : WOk n a) (hb : WOk n b) (w : World) :
  Calls Tryz.prog 228 #[.int .i64 n, .int .i64 a, .int .i64 b] w fun e w' => e = .returned (.int .i64 ((decide (a = b)).toNat)) ∧ w' = w := by
 clear ha hb
 go_enter Tryz.func228, Tryz.ntmps228
 go_wp2_with (first | (go_at_call 177; refine (c_wordFlag _ _).mono ?_; rintro e w' ⟨rfl, rfl⟩))
 go_ret
 exact ⟨ret_int (by congr 2), rfl⟩
theorem c_wordLess (n a b : Int) (ha : WOk n a) (hb : WOk n b) (w : World) :
  Calls Tryz.prog 229 #[.int .i64 n, .int .i64 a, .int .i64 b] w fun e w' => e = .returned (.int .i64 ((decide (a < b)).toNat)) ∧ w' = w := by
 clear ha hb
 go_enter Tryz.func229, Tryz.ntmps229
 go_wp2_with (first | (go_at_call 177; refine (c_wordFlag _ _).mono ?_; rintro e w' ⟨rfl, rfl⟩))
 go_ret
 exact ⟨ret_int (by congr 2), rfl⟩
theorem c_wordSless (n a b : Int) (ha : WOk n a) (hb : WOk n b) (w : World) :
  Calls Tryz.prog 230 #[.int .i64 n, .int .i64 a, .int .i64 b] w fun e w' => e = .returned (.int .i64 ((decide (sgn n a < sgn n b)).toNat)) ∧ w' = w := by
 clear ha hb
 go_enter Tryz.func230, Tryz.ntmps230
 go_wp2_with (first | (go_at_call 177; refine (c_wordFlag _ _).mono ?_; rintro e w' ⟨rfl, rfl⟩) | (go_at_call 198; refine (c_WordSignedI _ _ _).mono ?_; rintro e w' ⟨rfl, rfl⟩))
 go_ret
 exact ⟨ret_int (by congr 2), rfl⟩
theorem c_wordMost (n a b : Int) (ha : WOk n a) (hb : WOk n b) (w : World) :
  Calls Tryz.prog 231 #[.int .i64 n, .int .i64 a, .int .i64 b] w fun e w' => e = .returned (.int .i64 ((decide (a ≤ b)).toNat)) ∧ w' = w := by
 clear ha hb
 go_enter Tryz.func231, Tryz.ntmps231
 go_wp2_with (first | (go_at_call 177; refine (c_wordFlag _ _).mono ?_; rintro e w' ⟨rfl, rfl⟩))
 go_ret
 exact ⟨ret_int (by congr 2), rfl⟩
theorem c_wordSmost (n a b : Int) (ha : WOk n a) (hb : WOk n b) (w : World) :
  Calls Tryz.prog 232 #[.int .i64 n, .int .i64 a, .int .i64 b] w fun e w' => e = .returned (.int .i64 ((decide (sgn n a ≤ sgn n b)).toNat)) ∧ w' = w := by
 clear ha hb
 go_enter Tryz.func232, Tryz.ntmps232
 go_wp2_with (first | (go_at_call 177; refine (c_wordFlag _ _).mono ?_; rintro e w' ⟨rfl, rfl⟩) | (go_at_call 198; refine (c_WordSignedI _ _ _).mono ?_; rintro e w' ⟨rfl, rfl⟩))
 go_ret
 exact ⟨ret_int (by congr 2), rfl⟩
theorem c_wordCarry (n a b : Int) (ha : WOk n a) (hb : WOk n b) (w : World) :
  Calls Tryz.prog 233 #[.int .i64 n, .int .i64 a, .int .i64 b] w fun e w' => e = .returned (.int .i64 ((decide (2 ^ n.toNat ≤ a + b)).toNat)) ∧ w' = w := by
 have hw : wrap64 (a + b) = a + b := by have := ha.lt; have := hb.lt; have := ha.2.2.1; have := hb.2.2.1; exact IntWalk.wrap64_in _ (by omega)
 go_enter Tryz.func233, Tryz.ntmps233
 go_wp2_with (first | (go_at_call 177; refine (c_wordFlag _ _).mono ?_; rintro e w' ⟨rfl, rfl⟩) | (go_at_call 187; refine (c_wordTop _ ha.1 ha.2.1 _).mono ?_; rintro e w' ⟨rfl, rfl⟩))
 go_ret
 exact ⟨ret_int (by congr 2; rw [Bool.eq_iff_iff]; simp; omega), rfl⟩
theorem c_wordSover (n a b : Int) (ha : WOk n a) (hb : WOk n b) (w : World) :
  Calls Tryz.prog 234 #[.int .i64 n, .int .i64 a, .int .i64 b] w fun e w' => e = .returned (.int .i64 ((decide (sgn n (frm n (sgn n a + sgn n b)) ≠ sgn n a + sgn n b)).toNat)) ∧ w' = w := by
 have hw : wrap64 (sgn n a + sgn n b) = sgn n a + sgn n b := by have := sgn_bound n a; have := sgn_bound n b; exact IntWalk.wrap64_in _ (by omega)
 clear ha hb
 go_enter Tryz.func234, Tryz.ntmps234
 go_wp2_with (first | (go_at_call 177; refine (c_wordFlag _ _).mono ?_; rintro e w' ⟨rfl, rfl⟩) | (go_at_call 198; refine (c_WordSignedI _ _ _).mono ?_; rintro e w' ⟨rfl, rfl⟩) | (go_at_call 197; refine (c_WordFromI _ _ _).mono ?_; rintro e w' ⟨rfl, rfl⟩))
 go_ret
 exact ⟨ret_int (by congr 2; rw [Bool.eq_iff_iff]; simp; omega), rfl⟩
theorem c_wordMover (n a b : Int) (ha : WOk n a) (hb : WOk n b) (w : World) :
  Calls Tryz.prog 235 #[.int .i64 n, .int .i64 a, .int .i64 b] w fun e w' => e = .returned (.int .i64 ((decide (2 ^ n.toNat ≤ a * b)).toNat)) ∧ w' = w := by
 have hw : wrap64 (a * b) = a * b := by have := mul_bound ha.2.2.1 ha.lt hb.2.2.1 hb.lt; exact IntWalk.wrap64_in _ (by omega)
 go_enter Tryz.func235, Tryz.ntmps235
 go_wp2_with (first | (go_at_call 177; refine (c_wordFlag _ _).mono ?_; rintro e w' ⟨rfl, rfl⟩) | (go_at_call 187; refine (c_wordTop _ ha.1 ha.2.1 _).mono ?_; rintro e w' ⟨rfl, rfl⟩))
 go_ret
 exact ⟨ret_int (by congr 2; rw [Bool.eq_iff_iff]; simp; omega), rfl⟩
theorem rol_step {n a b : Int} {k : Nat} (h : WOk n a) (hr : (b % n).toNat < n.toNat) (hk : (k : Int) < n) :
  bits .or .i64 (turnAt n.toNat (b % n).toNat k a) (wrap64 (a / 2 ^ k % 2 * 2 ^ (((k : Int) + b) % n).toNat)) = turnAt n.toNat (b % n).toNat k a + a / 2 ^ k % 2 * 2 ^ (((k : Int) + b) % n).toNat := by
 have hs := spot_eq (b := b) h.1 hk
 have h2 := h.2.1
 have hp : (((k : Int) + b) % n).toNat < 16 := by
  have := Int.emod_lt_of_pos ((k : Int) + b) (b := n) (by omega); have := Int.emod_nonneg ((k : Int) + b) (b := n) (by omega); omega
 have hle : (2 : Int) ^ (((k : Int) + b) % n).toNat ≤ 65536 := by
  have := p2_mono (i := (((k : Int) + b) % n).toNat) (j := 16) (by omega); simpa using this
 have hpp := p2_pos (((k : Int) + b) % n).toNat
 have hw : wrap64 (a / 2 ^ k % 2 * 2 ^ (((k : Int) + b) % n).toNat) = a / 2 ^ k % 2 * 2 ^ (((k : Int) + b) % n).toNat := by
  apply IntWalk.wrap64_in
  rcases (by omega : a / 2 ^ k % 2 = 0 ∨ a / 2 ^ k % 2 = 1) with e | e <;> rw [e] <;> omega
 rw [hw]
 have hlt := turnAt_lt hr (k := k) (by omega) a
 have hn16 := p2_le h2
 exact or_free (turnAt_nonneg ..) (by omega) hp (by rw [hs]; exact turnAt_free hr (by omega) a) (by omega)
theorem c_wordRol (n a b : Int) (ha : WOk n a) (hb0 : 0 ≤ b) (hb1 : b ≤ 70000) (w : World) :
  Calls Tryz.prog 226 #[.int .i64 n, .int .i64 a, .int .i64 b] w fun e w' => e = .returned (.int .i64 (vRol n a b)) ∧ ∃ m, w' = w.drewN m := by
 have h1 := ha.1; have h2 := ha.2.1
 have hr0 : (b % n).toNat < n.toNat := by
  have := Int.emod_nonneg b (b := n) (by omega); have := Int.emod_lt_of_pos b (b := n) (by omega); omega
 have hA : Hid (WOk n a) := ha
 have hr : Hid ((b % n).toNat < n.toNat) := hr0
 clear ha hr0
 go_enter Tryz.func226, Tryz.ntmps226
 go_wp2
 go_loopw [7, 8, 10] (fun t _ i wr => ∃ k : Nat, (k : Int) ≤ n ∧ i = .int .i64 k ∧ t = .int .i64 (turnAt n.toNat (b % n).toNat k a) ∧ ∃ m, wr = w.drewN m) (fun _ _ i _ => (n - intOf i).toNat)
 case atStart => exact ⟨0, by omega, rfl, by rw [turnAt_zero], 0, rfl⟩
 case round =>
  obtain ⟨k, hk, rfl, rfl, m, hm⟩ := hrel
  have hM : Hid (wr = w.drewN m) := hm
  clear hm
  by_cases hlt : (k : Int) < n
  ·have hne : ¬ n = 0 := by omega
   have hw1 : wrap64 ((k : Int) + b) = k + b := IntWalk.wrap64_in _ (by omega)
   have ht : ((k : Int) + b).tmod n = (k + b) % n := Int.tmod_eq_emod_of_nonneg (by omega)
   have hm1 := Int.emod_nonneg ((k : Int) + b) (b := n) (by omega)
   have hm2 := Int.emod_lt_of_pos ((k : Int) + b) (b := n) (by omega)
   go_wp2
   go_quiet (first | (go_at_call 241; exact Calls.quiet_of_same (c_wordBit _ _ (by omega) (by omega) _)))
   go_wp2
   go_roundw
   case rel =>
    refine ⟨k + 1, by omega, by go_num, ?_, m + nq, by rw [hM.out, World.drewN_drewN]⟩
    rw [turnAt_succ hr.out, ← spot_eq h1 hlt, ← rol_step hA.out hr.out hlt]
   case measure => simp [intOf]; omega
  ·have hkn : k = n.toNat := by omega
   subst hkn
   go_wp2
   go_ret
   exact ⟨ret_int (turnAt_all hr.out hA.out.2.2.1 hA.out.2.2.2), m, hM.out⟩
theorem c_wordRor (n a b : Int) (ha : WOk n a) (hb : WOk n b) (w : World) :
  Calls Tryz.prog 227 #[.int .i64 n, .int .i64 a, .int .i64 b] w fun e w' => e = .returned (.int .i64 (vRor n a b)) ∧ ∃ m, w' = w.drewN m := by
 have h1 := ha.1; have h2 := ha.2.1
 have h3 := hb.2.2.1
 have hne : ¬ n = 0 := by omega
 have ht : b.tmod n = b % n := Int.tmod_eq_emod_of_nonneg h3
 have hm1 := Int.emod_nonneg b (b := n) (by omega)
 have hm2 := Int.emod_lt_of_pos b (b := n) (by omega)
 have hw : wrap64 (n - b % n) = n - b % n := IntWalk.wrap64_in _ (by omega)
 have hA : Hid (WOk n a) := ha
 clear ha hb
 go_enter Tryz.func227, Tryz.ntmps227
 go_wp2_with (go_at_call 226; refine (c_wordRol _ _ _ hA.out (by omega) (by omega) _).mono ?_; rintro e w' ⟨rfl, m, rfl⟩)
 go_ret
 exact ⟨rfl, _, rfl⟩
end Go.Proofs.YtlcgimadbpagfaaGreat
namespace Go.Proofs.YtlcgimadbpagfaaGreat
open Go.Lib
open Go.ChangeShapes Go.WideShapes Go.ChangeAt Go.RowKit
set_option linter.unusedVariables false
set_option maxRecDepth 100000
def twoTab : Array Value := #[.nilFunc, .bool false, .nilFunc, .bool false, .nilFunc, .bool false, .nilFunc, .bool false, .nilFunc, .bool false, .nilFunc, .bool false, .func (.func 213) #[] #[], .bool false, .func (.func 214) #[] #[], .bool false, .func (.func 215) #[] #[], .bool false, .func (.func 216) #[] #[], .bool false, .func (.func 217) #[] #[], .bool false, .func (.func 218) #[] #[], .bool false, .func (.func 219) #[] #[], .bool false, .func (.func 220) #[] #[], .bool false, .func (.func 221) #[] #[], .bool false, .func (.func 222) #[] #[], .bool false, .func (.func 223) #[] #[], .bool false, .func (.func 224) #[] #[], .bool false, .func (.func 225) #[] #[], .bool false, .func (.func 226) #[] #[], .bool false, .func (.func 227) #[] #[], .bool false, .func (.func 228) #[] #[], .bool true, .func (.func 229) #[] #[], .bool true, .func (.func 230) #[] #[], .bool true, .func (.func 231) #[] #[], .bool true, .func (.func 232) #[] #[], .bool true, .func (.func 233) #[] #[], .bool true, .func (.func 234) #[] #[], .bool true, .func (.func 235) #[] #[], .bool true]
def twoV (kind n a b : Int) : Int :=
 if kind = 6 then vAnd a b else
 if kind = 7 then vOr a b else
 if kind = 8 then vXor a b else
 if kind = 9 then frm n (a + b) else
 if kind = 10 then frm n (a - b) else
 if kind = 11 then frm n (a * b) else
 if kind = 12 then vDiv n a b else
 if kind = 13 then vRem a b else
 if kind = 14 then vSdiv n a b else
 if kind = 15 then vSrem n a b else
 if kind = 16 then vShl n a b else
 if kind = 17 then vShr a b else
 if kind = 18 then vSar n a b else
 if kind = 19 then vRol n a b else
 if kind = 20 then vRor n a b else
 if kind = 21 then (decide (a = b)).toNat else
 if kind = 22 then (decide (a < b)).toNat else
 if kind = 23 then (decide (sgn n a < sgn n b)).toNat else
 if kind = 24 then (decide (a ≤ b)).toNat else
 if kind = 25 then (decide (sgn n a ≤ sgn n b)).toNat else
 if kind = 26 then (decide (2 ^ n.toNat ≤ a + b)).toNat else
 if kind = 27 then (decide (sgn n (frm n (sgn n a + sgn n b)) ≠ sgn n a + sgn n b)).toNat else
 if kind = 28 then (decide (2 ^ n.toNat ≤ a * b)).toNat else
 0
def twoR (kind n a b : Int) : Int × Int × Bool :=
 if WOk n a ∧ WOk n b ∧ 6 ≤ kind ∧ kind ≤ 28 then (twoV kind n a b, if kind < 21 then n else 1, true) else (0, 0, false)
theorem size_tab : (Tryz.prog.info? 211).map (·.size) = some twoTab.size := by kernel_rfl
theorem one_tab : twoTab.all (·.oneCell') = true := by kernel_rfl
def zeros : Array Value := #[.nilFunc, .bool false, .nilFunc, .bool false, .nilFunc, .bool false, .nilFunc, .bool false, .nilFunc, .bool false, .nilFunc, .bool false, .nilFunc, .bool false, .nilFunc, .bool false, .nilFunc, .bool false, .nilFunc, .bool false, .nilFunc, .bool false, .nilFunc, .bool false, .nilFunc, .bool false, .nilFunc, .bool false, .nilFunc, .bool false, .nilFunc, .bool false, .nilFunc, .bool false, .nilFunc, .bool false, .nilFunc, .bool false, .nilFunc, .bool false, .nilFunc, .bool false, .nilFunc, .bool false, .nilFunc, .bool false, .nilFunc, .bool false, .nilFunc, .bool false, .nilFunc, .bool false, .nilFunc, .bool false, .nilFunc, .bool false, .nilFunc, .bool false]
theorem size_zeros : zeros.size = twoTab.size := by kernel_rfl
set_option maxHeartbeats 1000000 in
theorem c_twoRules (w : World) :
  Calls Tryz.prog 196 #[] w fun e w' => e = .returned (.agg twoTab) ∧ Below w.heap.size w w' := by
 go_enter Tryz.func196, Tryz.ntmps196
 go_wp2_with (refine wpList_store_row rfl 211 (.tmp 0) (.tmp 24) rfl w.heap.size twoTab rfl rfl 211 zeros (heap_alloc_new _ _) size_tab size_zeros one_tab ?_)
 rw [World.setRow_alloc_new]
 exact bodyPost_ret (v := .agg twoTab) (results_cell_row rfl _ _ w.heap.size 211 twoTab (0, 0) _ rfl (heap_alloc_new _ _) Tryz.underlying211 rfl size_tab) rfl ⟨rfl, (Below.refl _ _).alloc (Nat.le_refl _) _⟩
end Go.Proofs.YtlcgimadbpagfaaGreat
