/-
  How many numbers a diagram has, and which.
-/
import Derived.Test.YthdofdglbdfkkaaRows
import Derived.Test.YthdofdglbdfkkaaPaA
import Derived.Test.YthdofdglbdfkkaaG0
import Derived.Test.YthdofdglbdfkkaaBdM
import Derived.Test.YthdofdglbdfkkaaBdI
import Derived.Test.YthdofdglbdfkkaaBdE
import Derived.Test.YthdofdglbdfkkaaBdP
import Derived.WalkKit
import Derived.ProofKit
import Derived.OpenShut
import Derived.WalkSpells
import Derived.WalkLawsBesides
import Derived.Outline
import Derived.BigQuiet
import Derived.Handy
import Derived.LoopTactic
import Derived.Deep.Light
import Derived.Deep.RegionWith
import Derived.Deep.RegionHeld3
import Derived.Deep.DeepCutAuto
import Derived.Lib.Hide
import Derived.Maps.OwnRows
import Derived.Deep.Onto
import Derived.OneCell
import Derived.StillTailTactics
import Derived.Deep.AppendLies
import Derived.Deep.RegionLaw
namespace Go.Proofs.Ythdofdglbdfkkaa
open Go.ChangeShapes Go.WideShapes Go.ChangeAt Go.RowKit Go.Maps Go.ChangeMaps
set_option linter.unusedVariables false
set_option maxRecDepth 100000


/-- Where a number ends, reckoned. -/
def endB (ns : List BN) (c : Int) : Nat → Int → Bool
  | 0, p => p == 1
  | f + 1, p => if p < 2 then p == 1 else endB ns c f (nxt ns c p)
theorem endB_has {vars : Int} {ns : List BN} (hf : ∀ k : Nat, k < ns.length → nFine vars ns k) (c : Int) : ∀ (f : Nat) (p : Int), p < (f : Int) + 2 → p < (ns.length : Int) + 2 → (endB ns c f p = true ↔ HasP ns p c) := by
  intro f
  induction f with
  | zero =>
    intro p h1 _
    rw [endB]
    constructor
    · intro h
      obtain rfl : p = 1 := by simpa using h
      exact has_yes c
    · intro h
      cases h with
      | done _ h => rfl
      | step _ _ h => omega
  | succ f ih =>
    intro p h1 h2
    rw [endB]
    by_cases hp : p < 2
    · rw [if_pos hp]
      constructor
      · intro h
        obtain rfl : p = 1 := by simpa using h
        exact has_yes c
      · intro h
        cases h with
        | done _ h => rfl
        | step _ _ h => omega
    · rw [if_neg hp, has_step (by omega)]
      have hk := nxt_ok (c := c) hf (show 2 ≤ p by omega) h2
      exact ih _ (by omega) (by omega)
/-- Whether a place has a number: 1 or 0. -/
def hasI (ns : List BN) (p c : Int) : Int := if endB ns c ns.length p = true then 1 else 0
theorem hasI_yes {vars : Int} {ns : List BN} (hf : ∀ k : Nat, k < ns.length → nFine vars ns k) {p c : Int} (hp : p < (ns.length : Int) + 2) (h : HasP ns p c) : hasI ns p c = 1 := by
  unfold hasI; rw [if_pos ((endB_has hf c _ p hp hp).2 h)]
theorem hasI_no {vars : Int} {ns : List BN} (hf : ∀ k : Nat, k < ns.length → nFine vars ns k) {p c : Int} (hp : p < (ns.length : Int) + 2) (h : ¬ HasP ns p c) : hasI ns p c = 0 := by
  unfold hasI; rw [if_neg (fun e => h ((endB_has hf c _ p hp hp).1 e))]
theorem hasI_same {vars : Int} {ns : List BN} (hf : ∀ k : Nat, k < ns.length → nFine vars ns k) {p q c d : Int} (hp : p < (ns.length : Int) + 2) (hq : q < (ns.length : Int) + 2) (h : HasP ns p c ↔ HasP ns q d) : hasI ns p c = hasI ns q d := by
  unfold hasI
  have e : endB ns c ns.length p = endB ns d ns.length q := by
    rw [Bool.eq_iff_iff, endB_has hf c _ p hp hp, endB_has hf d _ q hq hq]; exact h
  rw [e]
/-- A sum over the numbers a, a + 1, .., k of them. -/
def sumR (g : Int → Int) (a : Int) : Nat → Int
  | 0 => 0
  | k + 1 => sumR g a k + g (a + k)
theorem sumR_add (g : Int → Int) (a : Int) (k l : Nat) : sumR g a (k + l) = sumR g a k + sumR g (a + k) l := by
  induction l with
  | zero => simp [sumR]
  | succ l ih =>
    rw [← Nat.add_assoc]
    simp only [sumR]
    rw [ih, show a + ((k + l : Nat) : Int) = a + k + l by omega]
    omega
theorem sumR_congr {g h : Int → Int} {a b : Int} : ∀ {k : Nat}, (∀ i : Nat, i < k → g (a + i) = h (b + i)) → sumR g a k = sumR h b k := by
  intro k
  induction k with
  | zero => intro _; rfl
  | succ k ih => intro e; rw [sumR, sumR, ih (fun i hi => e i (by omega)), e k (by omega)]
theorem sumR_plus (g h : Int → Int) (a : Int) (k : Nat) : sumR (fun c => g c + h c) a k = sumR g a k + sumR h a k := by
  induction k with
  | zero => rfl
  | succ k ih => simp only [sumR]; rw [ih]; omega
theorem sumR_bound {g : Int → Int} {a : Int} (h : ∀ c, 0 ≤ g c ∧ g c ≤ 1) (k : Nat) : 0 ≤ sumR g a k ∧ sumR g a k ≤ k := by
  induction k with
  | zero => exact ⟨Int.le_refl _, Int.le_refl _⟩
  | succ k ih => have := h (a + k); rw [sumR]; omega
/-- A number with one bit turned. -/
def flp (v : Nat) (c : Int) : Int := if c / 2 ^ v % 2 = 1 then c - 2 ^ v else c + 2 ^ v
theorem p2_nat (v : Nat) : ((2 ^ v : Nat) : Int) = 2 ^ v := by simp
theorem blk_lo {q i : Int} {v : Nat} (h0 : 0 ≤ i) (h1 : i < 2 ^ v) : (2 ^ (v + 1) * q + i) / 2 ^ v % 2 = 0 := by
  have hP := p2_pos v
  have e : 2 ^ (v + 1) * q + i = i + 2 ^ v * (2 * q) := by rw [p2_add, Int.mul_assoc]; simp; omega
  rw [e, Int.add_mul_ediv_left _ _ (by omega), Int.ediv_eq_zero_of_lt h0 h1]
  omega
theorem blk_hi {q i : Int} {v : Nat} (h0 : 0 ≤ i) (h1 : i < 2 ^ v) : (2 ^ (v + 1) * q + 2 ^ v + i) / 2 ^ v % 2 = 1 := by
  have hP := p2_pos v
  have e : 2 ^ (v + 1) * q + 2 ^ v + i = i + 2 ^ v * (2 * q + 1) := by rw [p2_add, Int.mul_assoc, Int.mul_add]; simp; omega
  rw [e, Int.add_mul_ediv_left _ _ (by omega), Int.ediv_eq_zero_of_lt h0 h1]
  omega
theorem flip_sum (g : Int → Int) (v : Nat) (m : Nat) : sumR g 0 (m * (2 ^ v + 2 ^ v)) = sumR (fun c => g (flp v c)) 0 (m * (2 ^ v + 2 ^ v)) := by
  induction m with
  | zero => simp [sumR]
  | succ m ih =>
    rw [Nat.succ_mul, sumR_add, sumR_add _ _ (m * _), ih]
    congr 1
    have e : (0 : Int) + ((m * (2 ^ v + 2 ^ v) : Nat) : Int) = 2 ^ (v + 1) * m := by
      have h1 : ((m * (2 ^ v + 2 ^ v) : Nat) : Int) = m * (2 ^ v + 2 ^ v) := by simp
      rw [h1, p2_add, Int.mul_comm]
      have : (2 : Int) ^ v + 2 ^ v = 2 ^ v * 2 ^ 1 := by simp; omega
      rw [this]
      omega
    rw [e, sumR_add, sumR_add]
    have hn := p2_nat v
    rw [Int.add_comm (sumR g _ _)]
    congr 1
    · refine sumR_congr (fun i hi => ?_)
      have hi' : (i : Int) < 2 ^ v := by omega
      have e2 : flp v (2 ^ (v + 1) * (m : Int) + (i : Int)) = 2 ^ (v + 1) * (m : Int) + 2 ^ v + i := by
        unfold flp; rw [blk_lo (by omega) hi', if_neg (by decide)]; omega
      rw [e2, hn]
    · refine sumR_congr (fun i hi => ?_)
      have hi' : (i : Int) < 2 ^ v := by omega
      have e2 : flp v (2 ^ (v + 1) * (m : Int) + ((2 ^ v : Nat) : Int) + (i : Int)) = 2 ^ (v + 1) * (m : Int) + i := by
        unfold flp; rw [hn, blk_hi (by omega) hi', if_pos rfl]; omega
      rw [e2]
theorem flip_vars (g : Int → Int) {v n : Nat} (h : v < n) : sumR g 0 (2 ^ n) = sumR (fun c => g (flp v c)) 0 (2 ^ n) := by
  have e : 2 ^ n = 2 ^ (n - (v + 1)) * (2 ^ v + 2 ^ v) := by
    rw [← Nat.two_mul, ← Nat.pow_succ', ← Nat.pow_add, show n - (v + 1) + (v + 1) = n by omega]
  rw [e]
  exact flip_sum g v _
theorem flp_div (v : Nat) (c : Int) : flp v c / 2 ^ (v + 1) = c / 2 ^ (v + 1) := by
  unfold flp
  split
  · exact div_less (by assumption)
  · rename_i h
    have hP := p2_pos v
    rw [div_pp, div_pp, show c + 2 ^ v = c + 2 ^ v * 1 by omega, Int.add_mul_ediv_left _ _ (by omega)]
    omega
theorem flp_bit (v : Nat) (c : Int) : flp v c / 2 ^ v % 2 = 1 ↔ ¬ c / 2 ^ v % 2 = 1 := by
  have hP := p2_pos v
  unfold flp
  split
  · rename_i h
    rw [show c - 2 ^ v = c + 2 ^ v * (-1) by omega, Int.add_mul_ediv_left _ _ (by omega)]
    omega
  · rename_i h
    rw [show c + 2 ^ v = c + 2 ^ v * 1 by omega, Int.add_mul_ediv_left _ _ (by omega)]
    omega
/-- How many numbers a place has. -/
def cntP (vars : Int) (ns : List BN) (p : Int) : Int := sumR (hasI ns p) 0 (2 ^ vars.toNat)
theorem hasI_bound (ns : List BN) (p c : Int) : 0 ≤ hasI ns p c ∧ hasI ns p c ≤ 1 := by unfold hasI; split <;> omega
theorem cntP_bound (vars : Int) (ns : List BN) (p : Int) : 0 ≤ cntP vars ns p ∧ cntP vars ns p ≤ 2 ^ vars.toNat := by
  have := sumR_bound (a := 0) (hasI_bound ns p) (2 ^ vars.toNat)
  rw [p2_nat] at this
  exact this
theorem cntP_step {vars : Int} {ns : List BN} (hf : ∀ k : Nat, k < ns.length → nFine vars ns k) {k : Nat} (hk : k < ns.length) {x : BN} (hx : x = ns.getD k default) : cntP vars ns x.lo + cntP vars ns x.hi = 2 * cntP vars ns ((k : Int) + 2) := by
  obtain ⟨⟨f0, f1⟩, f2, ⟨f3, f4⟩, ⟨f5, f6⟩, f7, f8⟩ := hf k hk
  rw [← hx] at f0 f1 f2 f3 f4 f5 f6 f7 f8
  have e : ((k : Int) + 2 - 2).toNat = k := by omega
  have hn : ∀ c, nxt ns c ((k : Int) + 2) = if bitN c x.v = 1 then x.hi else x.lo := fun c => by unfold nxt; rw [e, ← hx]
  have hs : ∀ c, HasP ns ((k : Int) + 2) c ↔ HasP ns (if bitN c x.v = 1 then x.hi else x.lo) c := fun c => by rw [has_step (by omega), hn]
  have hvl : x.v.toNat + 1 ≤ (vAt vars ns x.lo).toNat := by omega
  have hvh : x.v.toNat + 1 ≤ (vAt vars ns x.hi).toNat := by omega
  have hh : cntP vars ns ((k : Int) + 2) = sumR (fun c => hasI ns ((k : Int) + 2) (flp x.v.toNat c)) 0 (2 ^ vars.toNat) := flip_vars _ (by omega)
  have h2 : 2 * cntP vars ns ((k : Int) + 2) = cntP vars ns ((k : Int) + 2) + sumR (fun c => hasI ns ((k : Int) + 2) (flp x.v.toNat c)) 0 (2 ^ vars.toNat) := by omega
  rw [h2]
  unfold cntP
  rw [← sumR_plus, ← sumR_plus]
  refine sumR_congr (fun i _ => ?_)
  generalize ((0 : Int) + (i : Int)) = c
  show hasI ns x.lo c + hasI ns x.hi c = hasI ns ((k : Int) + 2) c + hasI ns ((k : Int) + 2) (flp x.v.toNat c)
  by_cases hb : bitN c x.v = 1
  · have hb2 : ¬ bitN (flp x.v.toNat c) x.v = 1 := fun h => (flp_bit x.v.toNat c).1 h hb
    rw [hasI_same hf (p := (k : Int) + 2) (c := c) (q := x.hi) (d := c) (by omega) (by omega) (by rw [hs, if_pos hb]), hasI_same hf (p := (k : Int) + 2) (c := flp x.v.toNat c) (q := x.lo) (d := c) (by omega) (by omega) (by rw [hs, if_neg hb2]; exact has_same hf (flp_div x.v.toNat c) (by omega) hvl)]
    omega
  · have hb2 : bitN (flp x.v.toNat c) x.v = 1 := (flp_bit x.v.toNat c).2 hb
    rw [hasI_same hf (p := (k : Int) + 2) (c := c) (q := x.lo) (d := c) (by omega) (by omega) (by rw [hs, if_neg hb]), hasI_same hf (p := (k : Int) + 2) (c := flp x.v.toNat c) (q := x.hi) (d := c) (by omega) (by omega) (by rw [hs, if_pos hb2]; exact has_same hf (flp_div x.v.toNat c) (by omega) hvh)]
/-- How many numbers, place by place. -/
def cts (vars : Int) (ns : List BN) : Nat → List Int
  | 0 => [0, 2 ^ vars.toNat]
  | k + 1 => cts vars ns k ++ [((cts vars ns k).getD (ns.getD k default).lo.toNat 0 + (cts vars ns k).getD (ns.getD k default).hi.toNat 0).tdiv 2]
theorem cts_len (vars : Int) (ns : List BN) (k : Nat) : (cts vars ns k).length = k + 2 := by
  induction k with
  | zero => rfl
  | succ k ih => rw [cts, List.length_append, ih]; rfl
theorem cts_old (vars : Int) (ns : List BN) {k p : Nat} (h : p < k + 2) : (cts vars ns (k + 1)).getD p 0 = (cts vars ns k).getD p 0 := by
  rw [cts]
  simp only [List.getD]
  rw [List.getElem?_append_left (by rw [cts_len]; exact h)]
theorem cts_new (vars : Int) (ns : List BN) (k : Nat) : (cts vars ns (k + 1)).getD (k + 2) 0 = ((cts vars ns k).getD (ns.getD k default).lo.toNat 0 + (cts vars ns k).getD (ns.getD k default).hi.toNat 0).tdiv 2 := by
  conv => lhs; rw [cts]
  simp only [List.getD]
  rw [List.getElem?_append_right (by rw [cts_len]; exact Nat.le_refl _), cts_len]
  simp
theorem cnt_no {vars : Int} {ns : List BN} (hf : ∀ k : Nat, k < ns.length → nFine vars ns k) : cntP vars ns 0 = 0 := by
  unfold cntP
  rw [sumR_congr (h := fun _ => 0) (b := 0) (fun i _ => hasI_no hf (by omega) (has_no _))]
  generalize 2 ^ vars.toNat = n
  induction n with
  | zero => rfl
  | succ n ih => rw [sumR, ih]; rfl
theorem cnt_yes {vars : Int} {ns : List BN} (hf : ∀ k : Nat, k < ns.length → nFine vars ns k) : cntP vars ns 1 = 2 ^ vars.toNat := by
  unfold cntP
  rw [sumR_congr (h := fun _ => 1) (b := 0) (fun i _ => hasI_yes hf (by omega) (has_yes _)), ← p2_nat]
  generalize 2 ^ vars.toNat = n
  induction n with
  | zero => rfl
  | succ n ih => rw [sumR, ih]; omega
theorem cts_all {vars : Int} {ns : List BN} (hf : ∀ k : Nat, k < ns.length → nFine vars ns k) : ∀ k : Nat, k ≤ ns.length → ∀ p : Nat, p < k + 2 → (cts vars ns k).getD p 0 = cntP vars ns p := by
  intro k
  induction k with
  | zero =>
    intro _ p hp
    rcases (show p = 0 ∨ p = 1 by omega) with rfl | rfl
    · exact (cnt_no hf).symm
    · exact (cnt_yes hf).symm
  | succ k ih =>
    intro hk p hp
    by_cases hpk : p < k + 2
    · rw [cts_old vars ns hpk]; exact ih (by omega) p hpk
    · obtain rfl : p = k + 2 := by omega
      rw [cts_new]
      obtain ⟨⟨f0, f1⟩, f2, ⟨f3, f4⟩, ⟨f5, f6⟩, f7, f8⟩ := hf k (by omega)
      have a := ih (by omega) (ns.getD k default).lo.toNat (by omega)
      have b := ih (by omega) (ns.getD k default).hi.toNat (by omega)
      rw [Int.toNat_of_nonneg f3] at a
      rw [Int.toNat_of_nonneg f5] at b
      rw [a, b, cntP_step hf (show k < ns.length by omega) rfl]
      have := (cntP_bound vars ns ((k : Int) + 2)).1
      rw [Int.tdiv_eq_ediv_of_nonneg (by omega)]
      show 2 * cntP vars ns ((k : Int) + 2) / 2 = cntP vars ns ((k + 2 : Nat) : Int)
      rw [show ((k + 2 : Nat) : Int) = (k : Int) + 2 by omega]
      omega
/-- The numbers below k that a place has, ascending. -/
def cds (ns : List BN) (p : Int) : Nat → List Int
  | 0 => []
  | k + 1 => if endB ns k ns.length p = true then cds ns p k ++ [(k : Int)] else cds ns p k
theorem cds_len (ns : List BN) (p : Int) (k : Nat) : ((cds ns p k).length : Int) = sumR (hasI ns p) 0 k := by
  induction k with
  | zero => rfl
  | succ k ih =>
    rw [cds, sumR, ← ih]
    unfold hasI
    rw [Int.zero_add]
    split
    · rw [List.length_append]; rfl
    · omega
theorem cds_yes {vars : Int} {ns : List BN} (hf : ∀ k : Nat, k < ns.length → nFine vars ns k) {p : Int} {k : Nat} (hp : p < (ns.length : Int) + 2) (h : HasP ns p k) : cds ns p (k + 1) = cds ns p k ++ [(k : Int)] := by
  rw [cds, if_pos ((endB_has hf _ _ p hp hp).2 h)]
theorem cds_no {vars : Int} {ns : List BN} (hf : ∀ k : Nat, k < ns.length → nFine vars ns k) {p : Int} {k : Nat} (hp : p < (ns.length : Int) + 2) (h : ¬ HasP ns p k) : cds ns p (k + 1) = cds ns p k := by
  rw [cds, if_neg (fun e => h ((endB_has hf _ _ p hp hp).1 e))]
theorem cds_le (ns : List BN) (p : Int) {k n : Nat} (h : k ≤ n) : (cds ns p k).length ≤ (cds ns p n).length := by
  induction n with
  | zero => obtain rfl : k = 0 := by omega
            exact Nat.le_refl _
  | succ n ih =>
    by_cases e : k = n + 1
    · rw [e]; exact Nat.le_refl _
    · refine Nat.le_trans (ih (by omega)) ?_
      conv => rhs; rw [cds]
      split
      · rw [List.length_append]; omega
      · exact Nat.le_refl _
/-- How many numbers a diagram has; 0 of what is none. -/
def CountR (vars : Int) (ns : List BN) (root r : Int) : Prop := (¬ OkB vars ns root ∧ r = 0) ∨ (OkB vars ns root ∧ r = cntP vars ns root)
theorem CountR.inj {vars : Int} {ns : List BN} {root r r' : Int} (h : CountR vars ns root r) (k : CountR vars ns root r') : r = r' := by
  rcases h with ⟨h1, h2⟩ | ⟨h1, h2⟩ <;> rcases k with ⟨k1, k2⟩ | ⟨k1, k2⟩
  · omega
  · exact absurd k1 h1
  · exact absurd h1 k1
  · omega
theorem count_of {vars : Int} {ns : List BN} {root : Int} (ho : OkB vars ns root) : (cts vars ns ns.length).getD root.toNat 0 = cntP vars ns root := by
  have h := cts_all ho.fine ns.length (Nat.le_refl _) root.toNat (by have := ho.hr.2; have := ho.hr.1; omega)
  rw [Int.toNat_of_nonneg ho.hr.1] at h
  exact h
end Go.Proofs.Ythdofdglbdfkkaa
