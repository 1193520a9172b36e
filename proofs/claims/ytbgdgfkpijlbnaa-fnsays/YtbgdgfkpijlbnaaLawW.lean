/-
  The laws of words, walked: what the laws' own small functions answer, over worlds that have grown.
-/
import Derived.Test.YtbgdgfkpijlbnaaRows
import Derived.Test.YtbgdgfkpijlbnaaMath
import Derived.Test.YtbgdgfkpijlbnaaBase
import Derived.Test.YtbgdgfkpijlbnaaCut
import Derived.Test.YtbgdgfkpijlbnaaOnes
import Derived.Test.YtbgdgfkpijlbnaaBits
import Derived.Test.YtbgdgfkpijlbnaaTwoI
import Derived.Test.YtbgdgfkpijlbnaaTab
import Derived.Test.YtbgdgfkpijlbnaaWTwoA
import Derived.Test.YtbgdgfkpijlbnaaWTwoB
import Derived.Test.YtbgdgfkpijlbnaaTwoS
import Derived.Test.YtbgdgfkpijlbnaaTwo
import Derived.Test.YtbgdgfkpijlbnaaDraw
import Derived.Test.YtbgdgfkpijlbnaaDraws
import Derived.WalkKit
import Derived.ProofKit
import Derived.OpenShut
import Derived.WalkSpells
import Derived.WalkLawsBesides
import Derived.Outline
import Derived.BigQuiet
namespace Go.Proofs.Ytbgdgfkpijlbnaa
open Go.ChangeShapes Go.WideShapes Go.ChangeAt Go.RowKit
set_option linter.unusedVariables false

theorem below_on {w0 w w' : World} (h : Below w0.heap.size w0 w) (k : Below w.heap.size w w') : Below w0.heap.size w0 w' := h.trans (k.mono h.size)

theorem k_WordTwo {w0 : World} (kind n a b : Int) (w : World) (HB : Below w0.heap.size w0 w) :
    Calls Try.prog 19 #[.int .i64 kind, .int .i64 n, .int .i64 a, .int .i64 b] w fun e w' => e = .returned (.tuple #[.int .i64 (twoR kind n a b).1, .int .i64 (twoR kind n a b).2.1, .bool (twoR kind n a b).2.2]) ∧ Below w0.heap.size w0 w' :=
  (c_WordTwoI kind n a b w).mono fun _ _ h => ⟨h.1, below_on HB h.2⟩
theorem k_WordOne {w0 : World} (kind n a : Int) (w : World) (HB : Below w0.heap.size w0 w) :
    Calls Try.prog 21 #[.int .i64 kind, .int .i64 n, .int .i64 a] w fun e w' => e = .returned (.tuple #[.int .i64 (oneR kind n a).1, .int .i64 (oneR kind n a).2.1, .bool (oneR kind n a).2.2]) ∧ Below w0.heap.size w0 w' :=
  (c_WordOneI kind n a w).mono fun _ _ h => ⟨h.1, below_on HB h.2⟩
theorem k_ldTwo {w0 : World} (kind n a b : Int) (w : World) (HB : Below w0.heap.size w0 w) :
    Calls Try.prog 20 #[.int .i64 kind, .int .i64 n, .int .i64 a, .int .i64 b] w fun e w' => e = .returned (.int .i64 (twoR kind n a b).1) ∧ Below w0.heap.size w0 w' := by
  go_enter Try.func20, Try.ntmps20
  go_wp2_with (go_at_call 19; refine (k_WordTwo _ _ _ _ _ HB).mono ?_; rintro e w' ⟨rfl, hB⟩)
  go_ret
  exact ⟨rfl, hB⟩
theorem k_DrawWordTwo {w0 : World} {a : Option Addr} {len cap : Nat} (w : World) (h : BytesAt w0.heap.size w0 a len cap) (HB : Below w0.heap.size w0 w) :
    Calls Try.prog 16 #[.slice a len cap] w fun e w' => ∃ k n x y : Int, e = .returned (.tuple #[.int .i64 k, .int .i64 n, .int .i64 x, .int .i64 y]) ∧ -1 ≤ n ∧ n ≤ 17 ∧ -1 ≤ x ∧ x ≤ 65536 ∧ -1 ≤ y ∧ y ≤ 65536 ∧ Below w0.heap.size w0 w' := by
  refine (c_DrawWordTwo w (h.below HB) HB.size).mono ?_
  rintro e w' ⟨k, n, x, y, rfl, h1, h2, h3, h4, h5, h6, hb⟩
  exact ⟨k, n, x, y, rfl, h1, h2, h3, h4, h5, h6, HB.trans hb⟩

/-! ### what a kind makes of two words, said plainly -/
theorem twoR_fst {kind n a b : Int} (ha : WOk n a) (hb : WOk n b) (h6 : 6 ≤ kind) (h28 : kind ≤ 28) : (twoR kind n a b).1 = twoV kind n a b := by rw [twoR_ok ha hb h6 h28]
theorem twoR_bad {kind n a b : Int} (h : ¬ (WOk n a ∧ WOk n b)) : (twoR kind n a b).2.2 = false := by rw [twoR_no (fun k => h ⟨k.1, k.2.1⟩)]

/-! ### the ring -/
theorem frm_frm {n : Int} (x : Int) : frm n (frm n x) = frm n x := by
  unfold frm; split
  · rw [Int.emod_emod_of_dvd _ (Int.dvd_refl _)]
  · rfl
theorem frm_add_l (n x y : Int) : frm n (frm n x + y) = frm n (x + y) := by
  unfold frm; split
  · rw [Int.emod_add_emod]
  · rfl
theorem frm_add_r (n x y : Int) : frm n (x + frm n y) = frm n (x + y) := by rw [Int.add_comm, frm_add_l, Int.add_comm]
theorem frm_sub_l (n x y : Int) : frm n (frm n x - y) = frm n (x - y) := by rw [Int.sub_eq_add_neg, frm_add_l, ← Int.sub_eq_add_neg]
theorem frm_mul_r (n x y : Int) : frm n (x * frm n y) = frm n (x * y) := by
  unfold frm; split
  · rw [Int.mul_emod, Int.emod_emod_of_dvd _ (Int.dvd_refl _), ← Int.mul_emod]
  · rfl
theorem frm_mul_l (n x y : Int) : frm n (frm n x * y) = frm n (x * y) := by rw [Int.mul_comm, frm_mul_r, Int.mul_comm]

theorem two_add {n a b : Int} (ha : WOk n a) (hb : WOk n b) : (twoR 9 n a b).1 = frm n (a + b) := twoR_fst ha hb (by decide) (by decide)
theorem two_sub {n a b : Int} (ha : WOk n a) (hb : WOk n b) : (twoR 10 n a b).1 = frm n (a - b) := twoR_fst ha hb (by decide) (by decide)
theorem two_mul {n a b : Int} (ha : WOk n a) (hb : WOk n b) : (twoR 11 n a b).1 = frm n (a * b) := twoR_fst ha hb (by decide) (by decide)
theorem one_neg {n a : Int} (ha : WOk n a) : oneR 2 n a = (frm n (-a), n, true) := if_pos ha
theorem one_not {n a : Int} (ha : WOk n a) : oneR 1 n a = (2 ^ n.toNat - 1 - a, n, true) := if_pos ha
theorem not_ok {n a : Int} (ha : WOk n a) : WOk n (2 ^ n.toNat - 1 - a) := by
  have := ha.2.2.1; have := ha.2.2.2; exact ⟨ha.1, ha.2.1, by omega, by omega⟩
theorem one_ok {n a : Int} (ha : WOk n a) : WOk n 1 := ⟨ha.1, ha.2.1, by decide, by have := p2_ge ha.1; omega⟩
theorem ring_not {n a : Int} (ha : WOk n a) : frm n (2 ^ n.toNat - 1 - a + 1) = frm n (-a) := by
  rw [show (2 : Int) ^ n.toNat - 1 - a + 1 = -a + 2 ^ n.toNat by omega, frm_eq _ ha.1 ha.2.1, frm_eq _ ha.1 ha.2.1, Int.add_emod_right]

theorem w_FnRing (a0 : Option Addr) (len0 cap0 : Nat) (a1 : Option Addr) (len1 cap1 : Nat) (w : World) (h0 : BytesAt w.heap.size w a0 len0 cap0) (h1 : BytesAt w.heap.size w a1 len1 cap1) :
    Calls Try.prog 3 #[.slice a0 len0 cap0, .slice a1 len1 cap1] w fun e w' => e = .returned (.bool true) ∧ Below w.heap.size w w' := by
  have HB0 : Below w.heap.size w w := Below.refl _ _
  by_cases hl0 : (1048576 : Int) < len0
  · go_enter Try.func3, Try.ntmps3
    go_wp2_with fail
    go_ret
    exact ⟨rfl, HB0⟩
  · by_cases hl1 : (1048576 : Int) < len1
    · go_enter Try.func3, Try.ntmps3
      go_wp2_with fail
      go_ret
      exact ⟨rfl, HB0⟩
    · go_enter Try.func3, Try.ntmps3
      go_wp2_with fail
      refine (k_DrawWordTwo _ h0 HB0).mono ?_
      rintro e w1 ⟨k1, n, a, b, rfl, g1, g2, g3, g4, g5, g6, HB1⟩
      go_wp2_with fail
      refine (k_DrawWordTwo _ h1 HB1).mono ?_
      rintro e w2 ⟨k2, n2, c0, d0, rfl, -, -, -, -, -, -, HB2⟩
      clear h0 h1 HB0 HB1
      go_wp2_with (go_at_call 17; refine (c_WordFromS _ _ _).mono ?_; rintro e wz ⟨rfl, hz⟩; obtain rfl := hz.symm)
      have HB2' : Hid (Below w.heap.size w w2) := HB2
      clear HB2
      by_cases ha : WOk n a
      · have hd1 : decide (WOk n a) = true := decide_eq_true ha
        by_cases hb : WOk n b
        · have hd2 : decide (WOk n b) = true := decide_eq_true hb
          have hc : WOk n (frm n c0) := frm_ok c0 ha.1 ha.2.1
          generalize frm n c0 = c at hc ⊢
          obtain ⟨ab, e1⟩ : ∃ x, frm n (a + b) = x := ⟨_, rfl⟩
          obtain ⟨p, e2⟩ : ∃ x, frm n (a * b) = x := ⟨_, rfl⟩
          obtain ⟨q, e3⟩ : ∃ x, frm n (a * c) = x := ⟨_, rfl⟩
          obtain ⟨s, e4⟩ : ∃ x, frm n (b + c) = x := ⟨_, rfl⟩
          obtain ⟨r, e5⟩ : ∃ x, frm n (a * s) = x := ⟨_, rfl⟩
          obtain ⟨ng, e6⟩ : ∃ x, frm n (-a) = x := ⟨_, rfl⟩
          have oab : WOk n ab := e1 ▸ frm_ok _ ha.1 ha.2.1
          have op : WOk n p := e2 ▸ frm_ok _ ha.1 ha.2.1
          have oq : WOk n q := e3 ▸ frm_ok _ ha.1 ha.2.1
          have os : WOk n s := e4 ▸ frm_ok _ ha.1 ha.2.1
          have ong : WOk n ng := e6 ▸ frm_ok _ ha.1 ha.2.1
          have f1 : (twoR 9 n a b).1 = ab := (two_add ha hb).trans e1
          have f2 : (twoR 11 n a b).1 = p := (two_mul ha hb).trans e2
          have f3 : (twoR 11 n a c).1 = q := (two_mul ha hc).trans e3
          have f4 : frm n (a + b) = ab := e1
          have f5 : (twoR 9 n b a).1 = ab := (two_add hb ha).trans (by rw [Int.add_comm, e1])
          have f6 : (twoR 11 n b a).1 = p := (two_mul hb ha).trans (by rw [Int.mul_comm, e2])
          have f7 : (twoR 10 n ab b).1 = a := (two_sub oab hb).trans (by rw [← e1, frm_sub_l, show a + b - b = a by omega, frm_self ha])
          have f8 : (twoR 9 n b c).1 = s := (two_add hb hc).trans e4
          have f9 : (twoR 11 n a s).1 = r := (two_mul ha os).trans e5
          have f10 : (twoR 9 n p q).1 = r := (two_add op oq).trans (by rw [← e2, ← e3, frm_add_l, frm_add_r, ← Int.mul_add, ← e5, ← e4, frm_mul_r])
          have f11 := one_neg ha
          rw [e6] at f11
          have f12 := one_not ha
          have f13 : (twoR 9 n a ng).1 = 0 := (two_add ha ong).trans (by rw [← e6, frm_add_r, show a + -a = 0 by omega, frm_eq _ ha.1 ha.2.1, Int.zero_emod])
          have f14 : (twoR 9 n (2 ^ n.toNat - 1 - a) 1).1 = ng := (two_add (not_ok ha) (one_ok ha)).trans (by rw [ring_not ha, e6])
          have hw : wrap64 (a + b) = a + b := IntWalk.wrap64_in _ (by omega)
          generalize (2 : Int) ^ n.toNat - 1 - a = nt at f12 f14
          clear e1 e2 e3 e4 e5 e6 oab op oq os ong ha hb hc g1 g2 g3 g4 g5 g6
          have HB2 := HB2'.out
          clear HB2'
          go_wp2_with (first | (go_at_call 18; refine (c_WordOkS _ _ _).mono ?_; rintro e wz ⟨rfl, hz⟩; obtain rfl := hz.symm) | (go_at_call 17; refine (c_WordFromS _ _ _).mono ?_; rintro e wz ⟨rfl, hz⟩; obtain rfl := hz.symm) | (go_at_call 20; refine (k_ldTwo _ _ _ _ _ (by assumption)).mono ?_; rintro e wi ⟨rfl, hBi⟩) | (go_at_call 21; refine (k_WordOne _ _ _ _ (by assumption)).mono ?_; rintro e wi ⟨rfl, hBi⟩))
          go_ret
          exact ⟨rfl, by assumption⟩
        · have hd2 : decide (WOk n b) = false := decide_eq_false hb
          have hf : (twoR 9 n a b).2.2 = false := twoR_bad (fun k => hb k.2)
          have HB2 := HB2'.out
          clear HB2' ha hb
          go_wp2_with (first | (go_at_call 18; refine (c_WordOkS _ _ _).mono ?_; rintro e wz ⟨rfl, hz⟩; obtain rfl := hz.symm) | (go_at_call 19; refine (k_WordTwo _ _ _ _ _ (by assumption)).mono ?_; rintro e wi ⟨rfl, hBi⟩))
          go_ret
          exact ⟨rfl, by assumption⟩
      · have hd1 : decide (WOk n a) = false := decide_eq_false ha
        have hf : (twoR 9 n a b).2.2 = false := twoR_bad (fun k => ha k.1)
        have HB2 := HB2'.out
        clear HB2' ha
        go_wp2_with (first | (go_at_call 18; refine (c_WordOkS _ _ _).mono ?_; rintro e wz ⟨rfl, hz⟩; obtain rfl := hz.symm) | (go_at_call 19; refine (k_WordTwo _ _ _ _ _ (by assumption)).mono ?_; rintro e wi ⟨rfl, hBi⟩))
        go_ret
        exact ⟨rfl, by assumption⟩
end Go.Proofs.Ytbgdgfkpijlbnaa
