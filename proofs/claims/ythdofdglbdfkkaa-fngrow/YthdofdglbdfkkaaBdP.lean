/-
  The least number of a diagram.
-/
import Derived.Test.YthdofdglbdfkkaaRows
import Derived.Test.YthdofdglbdfkkaaPaA
import Derived.Test.YthdofdglbdfkkaaG0
import Derived.Test.YthdofdglbdfkkaaBdM
import Derived.Test.YthdofdglbdfkkaaBdI
import Derived.Test.YthdofdglbdfkkaaBdE
import Derived.WalkKit
import Derived.ProofKit
import Derived.OpenShut
import Derived.WalkSpells
import Derived.WalkLawsBesides
import Derived.Outline
import Derived.BigQuiet
import Derived.Handy
import Derived.LoopTactic
import Derived.Deep.Light
import Derived.Deep.RegionWith
import Derived.Deep.RegionHeld3
import Derived.Deep.DeepCutAuto
import Derived.Lib.Hide
import Derived.Maps.OwnRows
import Derived.Deep.Onto
import Derived.OneCell
import Derived.StillTailTactics
import Derived.Deep.AppendLies
import Derived.Deep.RegionLaw
namespace Go.Proofs.Ythdofdglbdfkkaa
open Go.ChangeShapes Go.WideShapes Go.ChangeAt Go.RowKit Go.Maps Go.ChangeMaps
set_option linter.unusedVariables false
set_option maxRecDepth 100000


theorem div_pp (c : Int) (u d : Nat) : c / 2 ^ (u + d) = c / 2 ^ u / 2 ^ d := by
  rw [p2_add, Int.ediv_ediv_of_nonneg (Int.le_of_lt (p2_pos u))]
theorem bit_same {c c' v : Int} {u : Nat} (hc : c / 2 ^ u = c' / 2 ^ u) (hu : u ≤ v.toNat) : bitN c v = bitN c' v := by
  unfold bitN
  obtain ⟨d, hd⟩ : ∃ d, v.toNat = u + d := ⟨v.toNat - u, by omega⟩
  rw [hd, div_pp, div_pp, hc]
theorem vAt_node {vars : Int} {ns : List BN} {p : Int} (h : 2 ≤ p) : vAt vars ns p = (ns.getD (p - 2).toNat default).v := by unfold vAt; rw [if_neg (by omega)]
theorem vAt_nxt {vars : Int} {ns : List BN} (hf : ∀ k : Nat, k < ns.length → nFine vars ns k) {c p : Int} (h2 : 2 ≤ p) (hp : p < (ns.length : Int) + 2) : vAt vars ns p < vAt vars ns (nxt ns c p) := by
  obtain ⟨-, -, -, -, h6, h7⟩ := hf (p - 2).toNat (by omega)
  rw [vAt_node h2]
  unfold nxt
  split
  · exact h7
  · exact h6
/-- Behind a place only its variable and later ones are asked. -/
theorem ends_same {vars : Int} {ns : List BN} (hf : ∀ k : Nat, k < ns.length → nFine vars ns k) {c c' p r : Int} {u : Nat} (hc : c / 2 ^ u = c' / 2 ^ u) (h : EndsAt ns c p r) : p < (ns.length : Int) + 2 → u ≤ (vAt vars ns p).toNat → EndsAt ns c' p r := by
  induction h with
  | done p h => intro _ _; exact .done p h
  | step p r h _ ih =>
    intro hp hu
    have hv := vAt_nxt hf (c := c) h hp
    have hb : bitN c (ns.getD (p - 2).toNat default).v = bitN c' (ns.getD (p - 2).toNat default).v := bit_same hc (by rw [← vAt_node (vars := vars) h]; exact hu)
    have hn : nxt ns c p = nxt ns c' p := by unfold nxt; rw [hb]
    have hk := nxt_ok (c := c) hf h hp
    refine .step p r h ?_
    rw [← hn]
    exact ih (by omega) (by omega)
theorem has_same {vars : Int} {ns : List BN} (hf : ∀ k : Nat, k < ns.length → nFine vars ns k) {c c' p : Int} {u : Nat} (hc : c / 2 ^ u = c' / 2 ^ u) (hp : p < (ns.length : Int) + 2) (hu : u ≤ (vAt vars ns p).toNat) : HasP ns p c ↔ HasP ns p c' :=
  ⟨fun h => ends_same hf hc h hp hu, fun h => ends_same hf hc.symm h hp hu⟩
theorem has_step {ns : List BN} {c p : Int} (h : 2 ≤ p) : HasP ns p c ↔ HasP ns (nxt ns c p) c := by
  constructor
  · intro k
    cases k with
    | done _ h' => omega
    | step _ _ _ k => exact k
  · exact fun k => .step p 1 h k
theorem has_yes {ns : List BN} (c : Int) : HasP ns 1 c := .done 1 (by decide)
theorem has_no {ns : List BN} (c : Int) : ¬ HasP ns 0 c := fun h => by cases h with
  | step _ _ h => omega
/-- Numbers by their bit v. -/
theorem bit_times (q : Int) (v : Int) : bitN (2 ^ (v.toNat + 1) * q) v = 0 := by
  unfold bitN
  rw [p2_add, Int.mul_assoc, Int.mul_ediv_cancel_left _ (by have := p2_pos v.toNat; omega)]
  omega
theorem bit_more (q : Int) (v : Int) : bitN (2 ^ (v.toNat + 1) * q + 2 ^ v.toNat) v = 1 := by
  unfold bitN
  rw [show (2 : Int) ^ (v.toNat + 1) * q + 2 ^ v.toNat = 2 ^ v.toNat * (2 * q + 1) by rw [p2_add, Int.mul_add, Int.mul_assoc]; simp, Int.mul_ediv_cancel_left _ (by have := p2_pos v.toNat; omega)]
  omega
theorem div_more (q : Int) (v : Nat) : (2 ^ (v + 1) * q + 2 ^ v) / 2 ^ (v + 1) = 2 ^ (v + 1) * q / 2 ^ (v + 1) := by
  rw [div_pp, div_pp, show (2 : Int) ^ (v + 1) * q + 2 ^ v = 2 ^ v * (2 * q + 1) by rw [p2_add, Int.mul_add, Int.mul_assoc]; simp, show (2 : Int) ^ (v + 1) * q = 2 ^ v * (2 * q) by rw [p2_add, Int.mul_assoc]; simp, Int.mul_ediv_cancel_left _ (by have := p2_pos v; omega), Int.mul_ediv_cancel_left _ (by have := p2_pos v; omega)]
  omega
theorem div_less {c : Int} {v : Nat} (h : c / 2 ^ v % 2 = 1) : (c - 2 ^ v) / 2 ^ (v + 1) = c / 2 ^ (v + 1) := by
  rw [div_pp, div_pp, show c - 2 ^ v = c + 2 ^ v * (-1) by omega, Int.add_mul_ediv_left _ _ (by have := p2_pos v; omega)]
  omega
theorem ge_of_bit {c : Int} {v : Nat} (h0 : 0 ≤ c) (h : c / 2 ^ v % 2 = 1) : 2 ^ v ≤ c := by
  by_cases hl : c < 2 ^ v
  · rw [Int.ediv_eq_zero_of_lt h0 hl] at h; omega
  · omega
/-- The least numbers, place by place. -/
def lst (vars : Int) (ns : List BN) : Nat → List Int
  | 0 => [2 ^ vars.toNat, 0]
  | k + 1 => lst vars ns k ++ [min ((lst vars ns k).getD (ns.getD k default).lo.toNat 0) ((lst vars ns k).getD (ns.getD k default).hi.toNat 0 + 2 ^ (ns.getD k default).v.toNat)]
theorem lst_len (vars : Int) (ns : List BN) (k : Nat) : (lst vars ns k).length = k + 2 := by
  induction k with
  | zero => rfl
  | succ k ih => rw [lst, List.length_append, ih]; rfl
theorem lst_old (vars : Int) (ns : List BN) {k p : Nat} (h : p < k + 2) : (lst vars ns (k + 1)).getD p 0 = (lst vars ns k).getD p 0 := by
  rw [lst]
  simp only [List.getD]
  rw [List.getElem?_append_left (by rw [lst_len]; exact h)]
theorem lst_new (vars : Int) (ns : List BN) (k : Nat) : (lst vars ns (k + 1)).getD (k + 2) 0 = min ((lst vars ns k).getD (ns.getD k default).lo.toNat 0) ((lst vars ns k).getD (ns.getD k default).hi.toNat 0 + 2 ^ (ns.getD k default).v.toNat) := by
  conv => lhs; rw [lst]
  simp only [List.getD]
  rw [List.getElem?_append_right (by rw [lst_len]; exact Nat.le_refl _), lst_len]
  simp
structure LstP (vars : Int) (ns : List BN) (p m : Int) : Prop where
  lo : 0 ≤ m
  hi : m ≤ 2 ^ vars.toNat
  dv : ∃ q, m = 2 ^ (vAt vars ns p).toNat * q
  ge : ∀ c, 0 ≤ c → c < 2 ^ vars.toNat → HasP ns p c → m ≤ c
  some : p ≠ 0 → m < 2 ^ vars.toNat ∧ HasP ns p m
  none : p = 0 → m = 2 ^ vars.toNat
theorem dv_more {q : Int} {u d : Nat} (h : u ≤ d) : ∃ r, (2 : Int) ^ d * q = 2 ^ u * r :=
  ⟨2 ^ (d - u) * q, by rw [← Int.mul_assoc, ← p2_add, show u + (d - u) = d by omega]⟩
theorem lst_step {vars : Int} {ns : List BN} (hf : ∀ k : Nat, k < ns.length → nFine vars ns k) {k : Nat} (hk : k < ns.length) {x : BN} (hx : x = ns.getD k default) {ml mh : Int} (hl : LstP vars ns x.lo ml) (hh : LstP vars ns x.hi mh) :
    LstP vars ns ((k : Int) + 2) (min ml (mh + 2 ^ x.v.toNat)) := by
  obtain ⟨⟨f0, f1⟩, f2, ⟨f3, f4⟩, ⟨f5, f6⟩, f7, f8⟩ := hf k hk
  rw [← hx] at f0 f1 f2 f3 f4 f5 f6 f7 f8
  have e : ((k : Int) + 2 - 2).toNat = k := by omega
  have hv : vAt vars ns ((k : Int) + 2) = x.v := by rw [vAt_node (by omega), e, ← hx]
  have hn : ∀ c, nxt ns c ((k : Int) + 2) = if bitN c x.v = 1 then x.hi else x.lo := fun c => by unfold nxt; rw [e, ← hx]
  have hs : ∀ c, HasP ns ((k : Int) + 2) c ↔ HasP ns (if bitN c x.v = 1 then x.hi else x.lo) c := fun c => by rw [has_step (by omega), hn]
  have hP := p2_pos x.v.toNat
  have hvn : x.v.toNat + 1 ≤ vars.toNat := by omega
  have hvl : x.v.toNat + 1 ≤ (vAt vars ns x.lo).toNat := by omega
  have hvh : x.v.toNat + 1 ≤ (vAt vars ns x.hi).toNat := by omega
  obtain ⟨ql, el⟩ := hl.dv
  obtain ⟨qh, eh⟩ := hh.dv
  obtain ⟨rl, e1⟩ := dv_more (q := ql) hvl
  obtain ⟨rh, e2⟩ := dv_more (q := qh) hvh
  rw [e1] at el
  rw [e2] at eh
  obtain ⟨rv, e3⟩ := dv_more (q := 1) hvn
  rw [Int.mul_one] at e3
  have l1 := hl.lo
  have l2 := hl.hi
  have m1 := hh.lo
  have m2 := hh.hi
  -- what comes by way of the second is no number too many
  have hroom : mh < 2 ^ vars.toNat → mh + 2 ^ x.v.toNat < 2 ^ vars.toNat := fun h => by
    rw [eh, e3] at h ⊢
    have hP2 := p2_pos (x.v.toNat + 1)
    have hr : rh + 1 ≤ rv := by
      have := Int.lt_of_mul_lt_mul_left h (Int.le_of_lt hP2)
      omega
    have h3 := Int.mul_le_mul_of_nonneg_left hr (Int.le_of_lt hP2)
    rw [Int.mul_add, Int.mul_one] at h3
    have h4 : (2 : Int) ^ (x.v.toNat + 1) = 2 * 2 ^ x.v.toNat := by rw [p2_add]; simp; omega
    omega
  have hlo : HasP ns x.lo ml → HasP ns ((k : Int) + 2) ml := fun h => by
    rw [hs, el, bit_times, if_neg (by decide), ← el]; exact h
  have hhi : HasP ns x.hi mh → HasP ns ((k : Int) + 2) (mh + 2 ^ x.v.toNat) := fun h => by
    rw [hs, eh, bit_more, if_pos rfl]
    rw [eh] at h
    exact (has_same hf (div_more rh x.v.toNat) (by omega) hvh).2 h
  refine ⟨by omega, by omega, ?_, ?_, ?_, fun h => by omega⟩
  · rw [hv]
    rcases Int.le_total ml (mh + 2 ^ x.v.toNat) with h | h
    · rw [Int.min_eq_left h, el]; exact dv_more (Nat.le_succ _)
    · rw [Int.min_eq_right h, eh]
      obtain ⟨r, hr⟩ := dv_more (q := rh) (Nat.le_succ x.v.toNat)
      exact ⟨r + 1, by rw [hr, Int.mul_add, Int.mul_one]⟩
  · intro c c0 c1 hc
    rw [hs] at hc
    by_cases hb : bitN c x.v = 1
    · rw [if_pos hb] at hc
      have hg := ge_of_bit c0 hb
      have := hh.ge (c - 2 ^ x.v.toNat) (by omega) (by omega) ((has_same hf (div_less hb) (by omega) hvh).2 hc)
      omega
    · rw [if_neg hb] at hc
      have := hl.ge c c0 c1 hc
      omega
  · intro _
    by_cases h0 : x.lo = 0
    · have h1 : x.hi ≠ 0 := fun h => f2 (by omega)
      obtain ⟨h2, h3⟩ := hh.some h1
      have h4 := hl.none h0
      have h5 := hroom h2
      rw [Int.min_eq_right (by omega)]
      exact ⟨h5, hhi h3⟩
    · obtain ⟨h2, h3⟩ := hl.some h0
      rcases Int.le_total ml (mh + 2 ^ x.v.toNat) with h | h
      · rw [Int.min_eq_left h]; exact ⟨h2, hlo h3⟩
      · rw [Int.min_eq_right h]
        have h1 : x.hi ≠ 0 := fun he => by have := hh.none he; omega
        obtain ⟨h4, h5⟩ := hh.some h1
        exact ⟨by omega, hhi h5⟩
theorem lst_all {vars : Int} {ns : List BN} (hf : ∀ k : Nat, k < ns.length → nFine vars ns k) (hv : 0 ≤ vars) : ∀ k : Nat, k ≤ ns.length → ∀ p : Nat, p < k + 2 → LstP vars ns p ((lst vars ns k).getD p 0) := by
  intro k
  induction k with
  | zero =>
    intro _ p hp
    have hP := p2_pos vars.toNat
    rcases (show p = 0 ∨ p = 1 by omega) with rfl | rfl
    · exact ⟨by show (0 : Int) ≤ 2 ^ _; omega, Int.le_refl _, ⟨1, by show (2 : Int) ^ _ = _; unfold vAt; rw [if_pos (by decide), Int.mul_one]⟩, fun c _ _ h => absurd h (has_no c), fun h => absurd rfl h, fun _ => rfl⟩
    · exact ⟨Int.le_refl _, Int.le_of_lt hP, ⟨0, by simp [lst]⟩, fun c h _ _ => h, fun _ => ⟨hP, has_yes _⟩, fun h => by omega⟩
  | succ k ih =>
    intro hk p hp
    by_cases hpk : p < k + 2
    · rw [lst_old vars ns hpk]; exact ih (by omega) p hpk
    · obtain rfl : p = k + 2 := by omega
      rw [lst_new]
      obtain ⟨⟨f0, f1⟩, f2, ⟨f3, f4⟩, ⟨f5, f6⟩, f7, f8⟩ := hf k (by omega)
      have a := ih (by omega) (ns.getD k default).lo.toNat (by omega)
      have b := ih (by omega) (ns.getD k default).hi.toNat (by omega)
      rw [Int.toNat_of_nonneg f3] at a
      rw [Int.toNat_of_nonneg f5] at b
      have := lst_step hf (show k < ns.length by omega) rfl a b
      exact this
/-- The least number of a diagram, and whether there is one. -/
def LeastR (vars : Int) (ns : List BN) (root r : Int) (b : Bool) : Prop :=
  (¬ OkB vars ns root ∧ r = 0 ∧ b = false) ∨ (OkB vars ns root ∧ b = true ∧ (0 ≤ r ∧ r < 2 ^ vars.toNat) ∧ HasP ns root r ∧ ∀ c, 0 ≤ c → c < r → ¬ HasP ns root c) ∨
    (OkB vars ns root ∧ b = false ∧ r = 0 ∧ ∀ c, 0 ≤ c → c < 2 ^ vars.toNat → ¬ HasP ns root c)
theorem LeastR.inj {vars : Int} {ns : List BN} {root r r' : Int} {b b' : Bool} (h : LeastR vars ns root r b) (k : LeastR vars ns root r' b') : r = r' ∧ b = b' := by
  rcases h with ⟨h1, h2, h3⟩ | ⟨h1, h2, ⟨h3, h4⟩, h5, h6⟩ | ⟨h1, h2, h3, h4⟩ <;> rcases k with ⟨k1, k2, k3⟩ | ⟨k1, k2, ⟨k3, k4⟩, k5, k6⟩ | ⟨k1, k2, k3, k4⟩
  · exact ⟨by omega, by rw [h3, k3]⟩
  · exact absurd k1 h1
  · exact absurd k1 h1
  · exact absurd h1 k1
  · refine ⟨?_, by rw [h2, k2]⟩
    rcases Int.lt_trichotomy r r' with h | h | h
    · exact absurd h5 (k6 r h3 h)
    · exact h
    · exact absurd k5 (h6 r' k3 h)
  · exact absurd h5 (k4 r h3 h4)
  · exact absurd h1 k1
  · exact absurd k5 (h4 r' k3 k4)
  · exact ⟨by omega, by rw [h2, k2]⟩
theorem least_of {vars : Int} {ns : List BN} {root : Int} (ho : OkB vars ns root) (hr : root ≠ 0) : LeastR vars ns root ((lst vars ns ns.length).getD root.toNat 0) true := by
  have h := lst_all ho.fine ho.hv.1 ns.length (Nat.le_refl _) root.toNat (by have := ho.hr.2; omega)
  rw [Int.toNat_of_nonneg ho.hr.1] at h
  obtain ⟨h1, h2⟩ := h.some hr
  exact .inr (.inl ⟨ho, rfl, ⟨h.lo, h1⟩, h2, fun c c0 c1 hc => by have := h.ge c c0 (by omega) hc; omega⟩)
theorem least_no {vars : Int} {ns : List BN} {root : Int} (ho : OkB vars ns root) (hr : root = 0) : LeastR vars ns root 0 false :=
  .inr (.inr ⟨ho, rfl, rfl, fun c _ _ h => by rw [hr] at h; exact has_no c h⟩)
end Go.Proofs.Ythdofdglbdfkkaa
