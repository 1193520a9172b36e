/-
  The law of what is said of two words, walked.
-/
import Derived.Test.YtbgdgfkpijlbnaaRows
import Derived.Test.YtbgdgfkpijlbnaaMath
import Derived.Test.YtbgdgfkpijlbnaaBase
import Derived.Test.YtbgdgfkpijlbnaaCut
import Derived.Test.YtbgdgfkpijlbnaaOnes
import Derived.Test.YtbgdgfkpijlbnaaBits
import Derived.Test.YtbgdgfkpijlbnaaTwoI
import Derived.Test.YtbgdgfkpijlbnaaTab
import Derived.Test.YtbgdgfkpijlbnaaWTwoA
import Derived.Test.YtbgdgfkpijlbnaaWTwoB
import Derived.Test.YtbgdgfkpijlbnaaTwoS
import Derived.Test.YtbgdgfkpijlbnaaTwo
import Derived.Test.YtbgdgfkpijlbnaaDraw
import Derived.Test.YtbgdgfkpijlbnaaDraws
import Derived.Test.YtbgdgfkpijlbnaaLawW
import Derived.WalkKit
import Derived.ProofKit
import Derived.OpenShut
import Derived.WalkSpells
import Derived.WalkLawsBesides
import Derived.Outline
import Derived.BigQuiet
namespace Go.Proofs.Ytbgdgfkpijlbnaa
open Go.ChangeShapes Go.WideShapes Go.ChangeAt Go.RowKit
set_option linter.unusedVariables false

theorem sgn_frm' {n t : Int} (h1 : 1 ≤ n) (h2 : n ≤ 16) (h3 : -(2 ^ (n.toNat - 1)) ≤ t) (h4 : t < 2 ^ (n.toNat - 1)) : sgn n (frm n t) = t := by
  have hp := p2_half h1
  have hpp := p2_pos (n.toNat - 1)
  rw [sgn_eq (frm_ok t h1 h2), frm_eq _ h1 h2]
  by_cases h : 0 ≤ t
  · rw [Int.emod_eq_of_lt h (by omega), if_neg (by omega)]
  · have e : t % 2 ^ n.toNat = t + 2 ^ n.toNat := by
      rw [← Int.add_emod_right, Int.emod_eq_of_lt (by omega) (by omega)]
    rw [e, if_pos (by omega)]; omega
theorem alloc_lt (w : World) (o : Obj) : w.heap.size < (w.alloc o).heap.size := by show w.heap.size < (w.heap.push _).size; simp
theorem toNat_eq_one (b : Bool) : ((b.toNat : Int) == 1) = b := by cases b <;> rfl
theorem say_res {n a b : Int} (ha : WOk n a) (hb : WOk n b) (k : Nat) (hk : k < 8) : twoR (21 + (k : Int)) n a b = ((((twoR (21 + (k : Int)) n a b).1 == 1).toNat : Int), 1, true) := by
  have hr := twoR_ok ha hb (kind := 21 + (k : Int)) (by omega) (by omega)
  rw [if_neg (by omega)] at hr
  have hb : ∃ c : Bool, twoV (21 + (k : Int)) n a b = (c.toNat : Int) := by
    rcases (by omega : k = 0 ∨ k = 1 ∨ k = 2 ∨ k = 3 ∨ k = 4 ∨ k = 5 ∨ k = 6 ∨ k = 7) with rfl | rfl | rfl | rfl | rfl | rfl | rfl | rfl <;> exact ⟨_, rfl⟩
  obtain ⟨c, hc⟩ := hb
  rw [hr, hc, toNat_eq_one]
theorem say_cells {n a b X Y : Int} (ha : WOk n a) (hb : WOk n b) (hX : sgn n a = X) (hY : sgn n b = Y) (hP : (2 : Int) ^ n.toNat = 2 * 2 ^ (n.toNat - 1)) (j : Nat) (hj : j < 8) :
    #[Value.bool (a == b), .bool (decide (a < b)), .bool (decide (X < Y)), .bool (decide (a ≤ b)), .bool (decide (X ≤ Y)), .bool (decide (2 ^ n.toNat ≤ a + b)), .bool (decide (2 ^ (n.toNat - 1) ≤ X + Y) || decide (X + Y < -2 ^ (n.toNat - 1))), .bool (decide (2 ^ n.toNat ≤ a * b))][j]? = some (.bool ((twoR (21 + (j : Int)) n a b).1 == 1)) := by
  have hr := fun k => twoR_fst (kind := k) ha hb
  have hso : decide (sgn n (frm n (X + Y)) ≠ X + Y) = (decide (2 ^ (n.toNat - 1) ≤ X + Y) || decide (X + Y < -2 ^ (n.toNat - 1))) := by
    have hrg := sgn_range (frm_ok (X + Y) ha.1 ha.2.1)
    rw [Bool.eq_iff_iff]
    simp only [ne_eq, decide_eq_true_eq, Bool.or_eq_true]
    constructor
    · intro h
      by_cases h1 : 2 ^ (n.toNat - 1) ≤ X + Y
      · exact .inl h1
      · by_cases h2 : X + Y < -2 ^ (n.toNat - 1)
        · exact .inr h2
        · exact absurd (sgn_frm' ha.1 ha.2.1 (by omega) (by omega)) h
    · intro h e
      rw [e] at hrg
      omega
  rcases (by omega : j = 0 ∨ j = 1 ∨ j = 2 ∨ j = 3 ∨ j = 4 ∨ j = 5 ∨ j = 6 ∨ j = 7) with rfl | rfl | rfl | rfl | rfl | rfl | rfl | rfl
  all_goals rw [hr _ (by decide) (by decide)]
  · show some (Value.bool (a == b)) = some (Value.bool (((decide (a = b)).toNat : Int) == 1)); rw [toNat_eq_one]; rfl
  · show some (Value.bool (decide (a < b))) = some (Value.bool (((decide (a < b)).toNat : Int) == 1)); rw [toNat_eq_one]
  · show some (Value.bool (decide (X < Y))) = some (Value.bool (((decide (sgn n a < sgn n b)).toNat : Int) == 1)); rw [toNat_eq_one, hX, hY]
  · show some (Value.bool (decide (a ≤ b))) = some (Value.bool (((decide (a ≤ b)).toNat : Int) == 1)); rw [toNat_eq_one]
  · show some (Value.bool (decide (X ≤ Y))) = some (Value.bool (((decide (sgn n a ≤ sgn n b)).toNat : Int) == 1)); rw [toNat_eq_one, hX, hY]
  · show some (Value.bool (decide (2 ^ n.toNat ≤ a + b))) = some (Value.bool (((decide (2 ^ n.toNat ≤ a + b)).toNat : Int) == 1)); rw [toNat_eq_one]
  · show some (Value.bool (decide (2 ^ (n.toNat - 1) ≤ X + Y) || decide (X + Y < -2 ^ (n.toNat - 1)))) = some (Value.bool (((decide (sgn n (frm n (sgn n a + sgn n b)) ≠ sgn n a + sgn n b)).toNat : Int) == 1)); rw [toNat_eq_one, hX, hY, hso]
  · show some (Value.bool (decide (2 ^ n.toNat ≤ a * b))) = some (Value.bool (((decide (2 ^ n.toNat ≤ a * b)).toNat : Int) == 1)); rw [toNat_eq_one]
set_option maxHeartbeats 1000000 in
theorem w_FnSays (a0 : Option Addr) (len0 cap0 : Nat) (w : World) (h0 : BytesAt w.heap.size w a0 len0 cap0) :
    Calls Try.prog 7 #[.slice a0 len0 cap0] w fun e w' => e = .returned (.bool true) ∧ Below w.heap.size w w' := by
  have HB0 : Below w.heap.size w w := Below.refl _ _
  by_cases hl0 : (1048576 : Int) < len0
  · go_enter Try.func7, Try.ntmps7
    go_wp2_with fail
    go_ret
    exact ⟨rfl, HB0⟩
  · go_enter Try.func7, Try.ntmps7
    go_wp2_with fail
    refine (k_DrawWordTwo _ h0 HB0).mono ?_
    rintro e w1 ⟨k1, n, a, b, rfl, g1, g2, g3, g4, g5, g6, HB1⟩
    clear h0 HB0 hl0
    by_cases ha : WOk n a
    · have hd1 : decide (WOk n a) = true := decide_eq_true ha
      by_cases hb : WOk n b
      · have hd2 : decide (WOk n b) = true := decide_eq_true hb
        have h1 := ha.1; have h2 := ha.2.1
        have hX := sgn_bound n a
        have hY := sgn_bound n b
        have hmul := mul_bound ha.2.2.1 ha.lt hb.2.2.1 hb.lt
        have hwm : wrap64 (a * b) = a * b := IntWalk.wrap64_in _ (by omega)
        have hA := ha.2.2.1; have hA2 := ha.lt; have hB := hb.2.2.1; have hB2 := hb.lt
        obtain ⟨X, hXe⟩ : ∃ X, sgn n a = X := ⟨_, rfl⟩
        obtain ⟨Y, hYe⟩ : ∃ Y, sgn n b = Y := ⟨_, rfl⟩
        obtain ⟨P, hPe⟩ : ∃ P, (2 : Int) ^ n.toNat = P := ⟨_, rfl⟩
        obtain ⟨K, hKe⟩ : ∃ K, (2 : Int) ^ (n.toNat - 1) = K := ⟨_, rfl⟩
        rw [hXe] at hX
        rw [hYe] at hY
        have hP := p2_half ha.1
        have HC0 := fun j => say_cells ha hb hXe hYe hP j
        rw [hPe, hKe] at hP
        have hKp : 0 < K := by rw [← hKe]; exact p2_pos _
        have hPl : P ≤ 65536 := by rw [← hPe]; exact p2_le ha.2.1
        have hw1 : wrap64 (2 ^ n.toNat) = P := by rw [wrap_p2 ha.2.1, hPe]
        have hd3 : P.tdiv 2 = K := by rw [hP, Int.mul_tdiv_cancel_left _ (by decide)]
        have hd4 : (-P).tdiv 2 = -K := by rw [Int.neg_tdiv, hd3]
        have HR : Hid _ := say_res ha hb
        rw [hPe, hKe] at HC0
        have hwxy : wrap64 (X + Y) = X + Y := IntWalk.wrap64_in _ (by omega)
        have hwab : wrap64 (a + b) = a + b := IntWalk.wrap64_in _ (by omega)
        have hwp : wrap64 (-P) = -P := IntWalk.wrap64_in _ (by omega)
        have hwk : wrap64 K = K := IntWalk.wrap64_in _ (by omega)
        have hwk2 : wrap64 (-K) = -K := IntWalk.wrap64_in _ (by omega)
        have HN : Hid (0 < K) := hKp
        clear ha hb g1 g2 g3 g4 g5 g6 hP hPe hKe hmul hX hY hPl hKp hA hA2 hB hB2
        by_cases hov : K ≤ X + Y
        · have hov' : decide (K ≤ X + Y) = true := decide_eq_true hov
          simp only [hov', Bool.true_or] at HC0
          have HC : Hid _ := HC0
          clear HC0
          go_wp2_with (first | (go_at_call 18; refine (c_WordOkS _ _ _).mono ?_; rintro e wz ⟨rfl, hz⟩; obtain rfl := hz.symm) | (go_at_call 22; refine (c_WordSignedI _ _ _).mono ?_; rintro e wz ⟨rfl, hz⟩; obtain rfl := hz.symm) | (go_at_call 23; refine (c_WordSignedS _ _ _).mono ?_; rintro e wz ⟨rfl, hz⟩; obtain rfl := hz.symm))
          clear hwxy hwab hwp hwk hwk2 hd3 hd4 hov hov' hwm hw1
          go_loopw [14] (fun i wr => ∃ k : Nat, k ≤ 8 ∧ i = .int .i64 k ∧ Below w.heap.size w wr ∧ w1.heap.size < wr.heap.size ∧ ∀ j, j < 8 → wr.cell? ⟨w1.heap.size, j, none⟩ = some (.bool ((twoR (21 + j) n a b).1 == 1))) (fun i _ => 8 - (intOf i).toNat)
          case atStart =>
            refine ⟨0, by omega, rfl, HB1.alloc HB1.size _, alloc_lt _ _, fun j hj => ?_⟩
            rw [World.cell?_alloc_at _ _ _ _ rfl]
            exact HC.out j hj
          case round =>
            obtain ⟨k, hk, rfl, hBk, hsz, hcell⟩ := hrel
            by_cases hlt : k < 8
            · have hc := hcell k hlt
              have hres := HR.out k hlt
              have HCell : Hid _ := hcell
              have hki : (k : Int) < 8 := by omega
              clear hcell
              generalize hbb : ((twoR (21 + (k : Int)) n a b).1 == 1) = bb at hc hres
              clear hbb
              go_wp2_with fail
              refine (c_WordTwoI _ _ _ _ _).mono ?_
              rintro e wi ⟨rfl, hBi⟩
              have hc' : wi.cell? ⟨w1.heap.size, k, none⟩ = some (.bool bb) := by rw [hBi.cell (p := ⟨w1.heap.size, k, none⟩) hsz]; exact hc
              have hB' : Hid (Below w.heap.size w wi) := below_on hBk hBi
              have hO : Hid (∀ j, wi.cell? ⟨w1.heap.size, j, none⟩ = wr.cell? ⟨w1.heap.size, j, none⟩) := fun j => hBi.cell (p := ⟨w1.heap.size, j, none⟩) hsz
              have hS' : Hid (w1.heap.size < wi.heap.size) := Nat.lt_of_lt_of_le hsz hBi.size
              clear hBi hBk hsz hc
              cases bb
              all_goals
                go_wp2
                go_roundw
                case rel => exact ⟨k + 1, by omega, by go_num, hB'.out, hS'.out, fun j hj => by rw [hO.out]; exact HCell.out j hj⟩
                case measure => simp [intOf]; omega
            · have hki : ¬ (k : Int) < 8 := by omega
              clear hcell
              go_wp2_with fail
              go_ret
              exact ⟨rfl, hBk⟩
        · have hov' : decide (K ≤ X + Y) = false := decide_eq_false hov
          simp only [hov', Bool.false_or] at HC0
          have HC : Hid _ := HC0
          clear HC0
          go_wp2_with (first | (go_at_call 18; refine (c_WordOkS _ _ _).mono ?_; rintro e wz ⟨rfl, hz⟩; obtain rfl := hz.symm) | (go_at_call 22; refine (c_WordSignedI _ _ _).mono ?_; rintro e wz ⟨rfl, hz⟩; obtain rfl := hz.symm) | (go_at_call 23; refine (c_WordSignedS _ _ _).mono ?_; rintro e wz ⟨rfl, hz⟩; obtain rfl := hz.symm))
          clear hwxy hwab hwp hwk hwk2 hd3 hd4 hov hov' hwm hw1
          go_loopw [14] (fun i wr => ∃ k : Nat, k ≤ 8 ∧ i = .int .i64 k ∧ Below w.heap.size w wr ∧ w1.heap.size < wr.heap.size ∧ ∀ j, j < 8 → wr.cell? ⟨w1.heap.size, j, none⟩ = some (.bool ((twoR (21 + j) n a b).1 == 1))) (fun i _ => 8 - (intOf i).toNat)
          case atStart =>
            refine ⟨0, by omega, rfl, HB1.alloc HB1.size _, alloc_lt _ _, fun j hj => ?_⟩
            rw [World.cell?_alloc_at _ _ _ _ rfl]
            exact HC.out j hj
          case round =>
            obtain ⟨k, hk, rfl, hBk, hsz, hcell⟩ := hrel
            by_cases hlt : k < 8
            · have hc := hcell k hlt
              have hres := HR.out k hlt
              have HCell : Hid _ := hcell
              have hki : (k : Int) < 8 := by omega
              clear hcell
              generalize hbb : ((twoR (21 + (k : Int)) n a b).1 == 1) = bb at hc hres
              clear hbb
              go_wp2_with fail
              refine (c_WordTwoI _ _ _ _ _).mono ?_
              rintro e wi ⟨rfl, hBi⟩
              have hc' : wi.cell? ⟨w1.heap.size, k, none⟩ = some (.bool bb) := by rw [hBi.cell (p := ⟨w1.heap.size, k, none⟩) hsz]; exact hc
              have hB' : Hid (Below w.heap.size w wi) := below_on hBk hBi
              have hO : Hid (∀ j, wi.cell? ⟨w1.heap.size, j, none⟩ = wr.cell? ⟨w1.heap.size, j, none⟩) := fun j => hBi.cell (p := ⟨w1.heap.size, j, none⟩) hsz
              have hS' : Hid (w1.heap.size < wi.heap.size) := Nat.lt_of_lt_of_le hsz hBi.size
              clear hBi hBk hsz hc
              cases bb
              all_goals
                go_wp2
                go_roundw
                case rel => exact ⟨k + 1, by omega, by go_num, hB'.out, hS'.out, fun j hj => by rw [hO.out]; exact HCell.out j hj⟩
                case measure => simp [intOf]; omega
            · have hki : ¬ (k : Int) < 8 := by omega
              clear hcell
              go_wp2_with fail
              go_ret
              exact ⟨rfl, hBk⟩
      · have hd2 : decide (WOk n b) = false := decide_eq_false hb
        have hf : (twoR 22 n a b).2.2 = false := twoR_bad (fun k => hb k.2)
        clear ha hb
        go_wp2_with (first | (go_at_call 18; refine (c_WordOkS _ _ _).mono ?_; rintro e wz ⟨rfl, hz⟩; obtain rfl := hz.symm) | (go_at_call 19; refine (k_WordTwo _ _ _ _ _ (by assumption)).mono ?_; rintro e wi ⟨rfl, hBi⟩))
        go_ret
        exact ⟨rfl, by assumption⟩
    · have hd1 : decide (WOk n a) = false := decide_eq_false ha
      have hf : (twoR 22 n a b).2.2 = false := twoR_bad (fun k => ha k.1)
      clear ha
      go_wp2_with (first | (go_at_call 18; refine (c_WordOkS _ _ _).mono ?_; rintro e wz ⟨rfl, hz⟩; obtain rfl := hz.symm) | (go_at_call 19; refine (k_WordTwo _ _ _ _ _ (by assumption)).mono ?_; rintro e wi ⟨rfl, hBi⟩))
      go_ret
      exact ⟨rfl, by assumption⟩
end Go.Proofs.Ytbgdgfkpijlbnaa
