/-
  The laying of diagrams into forests, as data.
-/
import Derived.Test.YthdofdglbdfkkaaDoorRows
import Derived.Test.YthdofdglbdfkkaaDoorFoB
namespace Go.Proofs.YthdofdglbdfkkaaDoor
open Go.ChangeShapes Go.WideShapes Go.ChangeAt Go.RowKit Go.Maps Go.ChangeMaps
set_option linter.unusedVariables false
set_option maxRecDepth 100000

/-- A number with a bit set, if there is such a bit. -/
def fixc (i : Int) (yes : Bool) (c : Int) : Int := if i < 0 then c else c + (bI yes - bitN c i) * 2 ^ i.toNat
theorem pow_add' (a b : Nat) : (2 : Int) ^ (a + b) = 2 ^ a * 2 ^ b := Int.pow_add 2 a b
theorem div_add_mul (c k m : Int) (hm : 0 < m) : (c + k * m) / m = c / m + k := Int.add_mul_ediv_right c k (Int.ne_of_gt hm)
theorem bitN_fixc {i v c : Int} {yes : Bool} (hv : 0 ≤ v) : bitN (fixc i yes c) v = if v = i then bI yes else bitN c v := by
  unfold fixc
  by_cases hi : i < 0
  · rw [if_pos hi, if_neg (by omega)]
  · rw [if_neg hi]
    have hb : bI yes = 0 ∨ bI yes = 1 := by cases yes; exact .inl rfl; exact .inr rfl
    generalize bI yes = y at hb
    obtain ⟨a, rfl⟩ : ∃ a : Nat, i = a := ⟨i.toNat, by omega⟩
    obtain ⟨b, rfl⟩ : ∃ b : Nat, v = b := ⟨v.toNat, by omega⟩
    have hpa := pow_pos' a
    unfold bitN
    simp only [Int.toNat_natCast]
    have h01 : c / 2 ^ a % 2 = 0 ∨ c / 2 ^ a % 2 = 1 := by omega
    by_cases hab : (b : Int) = a
    · obtain rfl : b = a := by omega
      rw [if_pos rfl, div_add_mul _ _ _ hpa]
      omega
    · rw [if_neg hab]
      rcases Nat.lt_or_gt_of_ne (show b ≠ a by omega) with hlt | hgt
      · obtain ⟨d, rfl⟩ : ∃ d, a = b + (d + 1) := ⟨a - b - 1, by omega⟩
        have e : (2 : Int) ^ (b + (d + 1)) = 2 ^ d * 2 * 2 ^ b := by rw [pow_add', Int.pow_succ, Int.mul_comm]
        have e2 : (y - c / 2 ^ (b + (d + 1)) % 2) * 2 ^ (b + (d + 1)) = (y - c / 2 ^ (b + (d + 1)) % 2) * 2 ^ d * 2 * 2 ^ b := by rw [e]; simp only [Int.mul_assoc]
        rw [e2, div_add_mul _ _ _ (pow_pos' b)]
        generalize (y - c / 2 ^ (b + (d + 1)) % 2) * 2 ^ d = k
        omega
      · obtain ⟨d, rfl⟩ : ∃ d, b = a + 1 + d := ⟨b - a - 1, by omega⟩
        have key : ∀ z : Int, z / 2 ^ (a + 1 + d) = z / 2 ^ a / 2 / 2 ^ d := fun z => by
          rw [pow_add', Int.pow_succ, ← Int.ediv_ediv_of_nonneg (by have := pow_pos' a; omega), ← Int.ediv_ediv_of_nonneg (by omega)]
        rw [key, key, div_add_mul _ _ _ hpa]
        congr 2
        omega
/-- The places of a diagram's nodes that have been laid, a bit set. -/
structure Lays (vars : Int) (ns F : List BN) (i : Int) (yes : Bool) (L : List Int) : Prop where
  at_ : ∀ q : Nat, q < L.length → InF F (L.getD q 0) ∧ (∀ c, evF F (L.getD q 0) c = evF ns q (fixc i yes c)) ∧ vAt vars ns q ≤ vAt vars F (L.getD q 0)
theorem Lays.start (vars : Int) (ns F : List BN) (i : Int) (yes : Bool) : Lays vars ns F i yes [0, 1] := ⟨fun q hq => by
  have hq' : q = 0 ∨ q = 1 := by simp at hq; omega
  rcases hq' with rfl | rfl
  · exact ⟨InF.no F, fun c => (evF_0 F c).trans (evF_0 ns _).symm, Int.le_refl _⟩
  · exact ⟨InF.yes F, fun c => (evF_1 F c).trans (evF_1 ns _).symm, Int.le_refl _⟩⟩
/-- Where a node's ways lead when a bit is set. -/
def wayLo (n : BN) (i : Int) (yes : Bool) (lo hi : Int) : Int := if n.v = i ∧ yes = true then hi else lo
def wayHi (n : BN) (i : Int) (yes : Bool) (lo hi : Int) : Int := if n.v = i ∧ yes = false then lo else hi
theorem Lays.ways {vars : Int} {ns F : List BN} {i : Int} {yes : Bool} {L : List Int} {k : Nat} {n : BN} (h : Lays vars ns F i yes L) (hns : Frs vars ns) (hk : k < ns.length) (hL : L.length = k + 2) (hn : n = ns.getD k default) :
    ∀ z, (z = wayLo n i yes (L.getD n.lo.toNat 0) (L.getD n.hi.toNat 0) ∨ z = wayHi n i yes (L.getD n.lo.toNat 0) (L.getD n.hi.toNat 0)) → InF F z ∧ n.v < vAt vars F z := by
  obtain ⟨f1, f2, f3, f4, f5, f6⟩ := hns.fine k hk
  rw [← hn] at f1 f2 f3 f4 f5 f6
  obtain ⟨a1, -, a3⟩ := h.at_ n.lo.toNat (by omega)
  obtain ⟨b1, -, b3⟩ := h.at_ n.hi.toNat (by omega)
  rw [Int.toNat_of_nonneg f3.1] at a3
  rw [Int.toNat_of_nonneg f4.1] at b3
  have key : ∀ z, z = L.getD n.lo.toNat 0 ∨ z = L.getD n.hi.toNat 0 → InF F z ∧ n.v < vAt vars F z := by
    rintro z (rfl | rfl)
    · exact ⟨a1, by omega⟩
    · exact ⟨b1, by omega⟩
  intro z hz
  apply key
  unfold wayLo wayHi at hz
  rcases hz with rfl | rfl <;> split <;> simp
theorem Lays.push {vars : Int} {ns F F' : List BN} {i : Int} {yes : Bool} {L : List Int} {k : Nat} {n : BN} {p : Int} (h : Lays vars ns F i yes L) (hns : Frs vars ns) (hF : Frs vars F) (hk : k < ns.length) (hL : L.length = k + 2) (hn : n = ns.getD k default)
    (hp : PutF vars n.v (wayLo n i yes (L.getD n.lo.toNat 0) (L.getD n.hi.toNat 0)) (wayHi n i yes (L.getD n.lo.toNat 0) (L.getD n.hi.toNat 0)) F F' p) : Lays vars ns F' i yes (L ++ [p]) := by
  obtain ⟨f1, f2, f3, f4, f5, f6⟩ := hns.fine k hk
  rw [← hn] at f1 f2 f3 f4 f5 f6
  obtain ⟨a1, a2, a3⟩ := h.at_ n.lo.toNat (by omega)
  obtain ⟨b1, b2, b3⟩ := h.at_ n.hi.toNat (by omega)
  rw [Int.toNat_of_nonneg f3.1] at a2
  rw [Int.toNat_of_nonneg f4.1] at b2
  obtain ⟨G, hG, -⟩ := hp.ext
  refine ⟨fun q hq => ?_⟩
  rw [List.length_append] at hq
  simp only [List.length_cons, List.length_nil] at hq
  rcases Nat.lt_or_ge q L.length with hlt | hge
  · have e : (L ++ [p]).getD q 0 = L.getD q 0 := by simp only [List.getD_eq_getElem?_getD, List.getElem?_append_left hlt]
    rw [e]
    obtain ⟨c1, c2, c3⟩ := h.at_ q hlt
    subst hG
    exact ⟨c1.app G, fun c => by rw [evF_app hF c1, c2], by rw [vAt_app c1.2]; exact c3⟩
  · obtain rfl : q = L.length := by omega
    have e : (L ++ [p]).getD L.length 0 = p := by simp [List.getD_eq_getElem?_getD]
    have e2 : ((L.length : Nat) : Int) = (k : Int) + 2 := by omega
    rw [e, e2]
    refine ⟨hp.inn, fun c => ?_, by rw [vAt_nd, ← hn]; exact hp.lev⟩
    rw [hp.ev, evF_node hns hk, ← hn, bitN_fixc f1.1]
    by_cases hvi : n.v = i
    · rw [if_pos hvi]
      cases yes with
      | true =>
        have e3 : wayLo n i true (L.getD n.lo.toNat 0) (L.getD n.hi.toNat 0) = L.getD n.hi.toNat 0 := if_pos ⟨hvi, rfl⟩
        have e4 : wayHi n i true (L.getD n.lo.toNat 0) (L.getD n.hi.toNat 0) = L.getD n.hi.toNat 0 := if_neg (by simp)
        rw [e3, e4, if_pos (show bI true = 1 from rfl), ← b2]
        split <;> rfl
      | false =>
        have e3 : wayLo n i false (L.getD n.lo.toNat 0) (L.getD n.hi.toNat 0) = L.getD n.lo.toNat 0 := if_neg (by simp)
        have e4 : wayHi n i false (L.getD n.lo.toNat 0) (L.getD n.hi.toNat 0) = L.getD n.lo.toNat 0 := if_pos ⟨hvi, rfl⟩
        rw [e3, e4, if_neg (show ¬ bI false = 1 by decide), ← a2]
        split <;> rfl
    · have e3 : wayLo n i yes (L.getD n.lo.toNat 0) (L.getD n.hi.toNat 0) = L.getD n.lo.toNat 0 := if_neg (fun h => hvi h.1)
      have e4 : wayHi n i yes (L.getD n.lo.toNat 0) (L.getD n.hi.toNat 0) = L.getD n.hi.toNat 0 := if_neg (fun h => hvi h.1)
      rw [e3, e4, if_neg hvi, a2, b2]
/-- The places of codes: the numbers whose bits from one on are those of a code. -/
def codesT (vars i : Int) (codes : List Int) (c : Int) : Prop := ∃ x ∈ codes, ∀ v, i ≤ v → v < vars → bitN x v = bitN c v
end Go.Proofs.YthdofdglbdfkkaaDoor
