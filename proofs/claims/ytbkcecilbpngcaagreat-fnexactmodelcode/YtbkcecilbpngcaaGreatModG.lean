/-
  What a node is made of: as a set.
-/
import Derived.Test.YtbkcecilbpngcaaGreatRows
import Derived.Test.YtbkcecilbpngcaaGreatPaA
import Derived.Test.YtbkcecilbpngcaaGreatNodeM
import Derived.Test.YtbkcecilbpngcaaGreatNodeL
import Derived.Test.YtbkcecilbpngcaaGreatModD
import Derived.Test.YtbkcecilbpngcaaGreatModA
import Derived.Test.YtbkcecilbpngcaaGreatModB
import Derived.Test.YtbkcecilbpngcaaGreatModF
namespace Go.Proofs.YtbkcecilbpngcaaGreat
set_option linter.unusedVariables false

/-- The place of part t of node j. -/
def prt (ns : List ND) (j t : Nat) : Nat := (partAt (ns.getD j default) t).toNat
def pcAt (ns : List ND) (j : Nat) : Int := pcN (ns.getD j default).kind
/-- What a node is made of: itself, its parts, their parts, and so on. -/
inductive MadeOf (ns : List ND) (at_ : Nat) : Nat → Prop
  | self : MadeOf ns at_ at_
  | part (j t : Nat) (h : MadeOf ns at_ j) (ht : (t : Int) < pcAt ns j) : MadeOf ns at_ (prt ns j t)
/-- Made of no state and no input. -/
def fixedN (ns : List ND) (at_ : Nat) : Prop := ∀ j, MadeOf ns at_ j → ¬ ((ns.getD j default).kind = 36 ∨ (ns.getD j default).kind = 35)
theorem pcN_le (k : Int) : pcN k ≤ 3 := by unfold pcN; split <;> (try split) <;> (try split) <;> (try split) <;> omega
theorem good_part {ns : List ND} (h : nodesGood ns) {j t : Nat} (hj : j < ns.length) (ht : (t : Int) < pcAt ns j) : 0 ≤ partAt (ns.getD j default) t ∧ prt ns j t < j := by
  obtain ⟨⟨h60, hp0, hpts, _⟩, _⟩ := h j hj
  have hlen : (ns.take j).length = j := by rw [List.length_take]; omega
  rw [hlen] at hpts
  have h3 := pcN_le (ns.getD j default).kind
  unfold pcAt at ht
  have ht3 : t = 0 ∨ t = 1 ∨ t = 2 := by omega
  have hk : ptOk j (ns.getD j default) t := by
    rcases ht3 with rfl | rfl | rfl
    · exact hpts.1
    · exact hpts.2.1
    · exact hpts.2.2
  unfold ptOk at hk
  rw [if_pos ht] at hk
  unfold prt
  omega
theorem MadeOf.le {ns : List ND} (h : nodesGood ns) {at_ j : Nat} (ha : at_ < ns.length) (hm : MadeOf ns at_ j) : j ≤ at_ := by
  induction hm with
  | self => exact Nat.le_refl _
  | part j t hj ht ih =>
    have := good_part h (show j < ns.length by omega) ht
    omega
/-- A set that is on its way: all from k on is done. -/
def MInv (ns : List ND) (at_ k : Nat) (s : Nat → Bool) : Prop :=
  s at_ = true ∧ (∀ j, s j = true → MadeOf ns at_ j) ∧ ∀ j, k ≤ j → s j = true → ∀ t : Nat, (t : Int) < pcAt ns j → s (prt ns j t) = true
theorem MInv.start (ns : List ND) (at_ : Nat) : MInv ns at_ (at_ + 1) (fun j => decide (j = at_)) := by
  refine ⟨by simp, ?_, ?_⟩
  · intro j hj
    obtain rfl : j = at_ := by simpa using hj
    exact .self
  · intro j hj hs
    have : j = at_ := by simpa using hs
    omega
theorem MInv.done {ns : List ND} {at_ : Nat} {s : Nat → Bool} (h : MInv ns at_ 0 s) (j : Nat) : s j = true ↔ MadeOf ns at_ j := by
  refine ⟨h.2.1 j, fun hm => ?_⟩
  induction hm with
  | self => exact h.1
  | part j t _ ht ih => exact h.2.2 j (Nat.zero_le _) ih t ht
/-- What is not in the set needs no step. -/
theorem MInv.skip {ns : List ND} {at_ k : Nat} {s : Nat → Bool} (h : MInv ns at_ (k + 1) s) (hs : s k = false) : MInv ns at_ k s := by
  refine ⟨h.1, h.2.1, fun j hj hsj t ht => ?_⟩
  rcases Nat.lt_or_ge k j with hlt | hge
  · exact h.2.2 j hlt hsj t ht
  · obtain rfl : j = k := by omega
    rw [hs] at hsj; cases hsj
/-- Within a step: the parts below t are in. -/
def MStep (ns : List ND) (at_ k t : Nat) (s s' : Nat → Bool) : Prop :=
  (∀ j, s j = true → s' j = true) ∧ (∀ j, k ≤ j → s' j = s j) ∧ (∀ j, s' j = true → MadeOf ns at_ j) ∧ ∀ u, u < t → s' (prt ns k u) = true
theorem MStep.start {ns : List ND} {at_ k : Nat} {s : Nat → Bool} (h : MInv ns at_ (k + 1) s) : MStep ns at_ k 0 s s := ⟨fun _ h => h, fun _ _ => rfl, h.2.1, fun u hu => by omega⟩
theorem MStep.next {ns : List ND} {at_ k t : Nat} {s s' : Nat → Bool} (h : MStep ns at_ k t s s') (hk : s k = true) (hg : nodesGood ns) (hkl : k < ns.length) (ht : (t : Int) < pcAt ns k) :
    MStep ns at_ k (t + 1) s (fun j => if j = prt ns k t then true else s' j) := by
  obtain ⟨h1, h2, h3, h4⟩ := h
  have hp := good_part hg hkl ht
  refine ⟨fun j hj => ?_, fun j hj => ?_, fun j hj => ?_, fun u hu => ?_⟩
  · show (if _ then _ else _) = true
    split
    · rfl
    · exact h1 j hj
  · show (if _ then _ else _) = _
    rw [if_neg (by omega)]; exact h2 j hj
  · simp only at hj
    split at hj
    · rename_i e; subst e; exact .part k t (h3 k (by rw [h2 k (Nat.le_refl _)]; exact hk)) ht
    · exact h3 j hj
  · show (if _ then _ else _) = true
    split
    · rfl
    · rename_i hne
      refine h4 u ?_
      rcases Nat.lt_or_ge u t with h | h
      · exact h
      · obtain rfl : u = t := by omega
        exact absurd rfl hne
theorem MStep.done {ns : List ND} {at_ k t : Nat} {s s' : Nat → Bool} (h : MInv ns at_ (k + 1) s) (hs : MStep ns at_ k t s s') (ht : pcAt ns k ≤ t) : MInv ns at_ k s' := by
  obtain ⟨h1, h2, h3, h4⟩ := hs
  refine ⟨h1 _ h.1, h3, fun j hj hsj u hu => ?_⟩
  rcases Nat.lt_or_ge k j with hlt | hge
  · exact h1 _ (h.2.2 j hlt (by rw [← h2 j hj]; exact hsj) u hu)
  · obtain rfl : j = k := by omega
    exact h4 u (by omega)
/-- What nodes are made of (those of which S is true). -/
def MadeL (ns : List ND) (S : Nat → Prop) (j : Nat) : Prop := ∃ i, S i ∧ MadeOf ns i j
def MInvL (ns : List ND) (S : Nat → Prop) (k : Nat) (s : Nat → Bool) : Prop :=
  (∀ i, S i → s i = true) ∧ (∀ j, s j = true → MadeL ns S j) ∧ ∀ j, k ≤ j → s j = true → ∀ t : Nat, (t : Int) < pcAt ns j → s (prt ns j t) = true
theorem MInvL.start {ns : List ND} {S : Nat → Prop} {s : Nat → Bool} {l : Nat} (hS : ∀ j, s j = true ↔ S j) (hl : ∀ j, S j → j < l) : MInvL ns S l s :=
  ⟨fun i hi => (hS i).2 hi, fun j hj => ⟨j, (hS j).1 hj, .self⟩, fun j hj hs => by have := hl j ((hS j).1 hs); omega⟩
theorem MInvL.done {ns : List ND} {S : Nat → Prop} {s : Nat → Bool} (h : MInvL ns S 0 s) (j : Nat) : s j = true ↔ MadeL ns S j := by
  refine ⟨h.2.1 j, fun ⟨i, hi, hm⟩ => ?_⟩
  have key : ∀ q, MadeOf ns i q → s q = true := fun q hq => by
    induction hq with
    | self => exact h.1 i hi
    | part j t _ ht ih => exact h.2.2 j (Nat.zero_le _) ih t ht
  exact key j hm
theorem MInvL.skip {ns : List ND} {S : Nat → Prop} {k : Nat} {s : Nat → Bool} (h : MInvL ns S (k + 1) s) (hs : s k = false) : MInvL ns S k s := by
  refine ⟨h.1, h.2.1, fun j hj hsj t ht => ?_⟩
  rcases Nat.lt_or_ge k j with hlt | hge
  · exact h.2.2 j hlt hsj t ht
  · obtain rfl : j = k := by omega
    rw [hs] at hsj; cases hsj
def MStepL (ns : List ND) (S : Nat → Prop) (k t : Nat) (s s' : Nat → Bool) : Prop :=
  (∀ j, s j = true → s' j = true) ∧ (∀ j, k ≤ j → s' j = s j) ∧ (∀ j, s' j = true → MadeL ns S j) ∧ ∀ u, u < t → s' (prt ns k u) = true
theorem MStepL.start {ns : List ND} {S : Nat → Prop} {k : Nat} {s : Nat → Bool} (h : MInvL ns S (k + 1) s) : MStepL ns S k 0 s s := ⟨fun _ h => h, fun _ _ => rfl, h.2.1, fun u hu => by omega⟩
theorem MStepL.next {ns : List ND} {S : Nat → Prop} {k t : Nat} {s s' : Nat → Bool} (h : MStepL ns S k t s s') (hk : s k = true) (hg : nodesGood ns) (hkl : k < ns.length) (ht : (t : Int) < pcAt ns k) :
    MStepL ns S k (t + 1) s (fun j => if j = prt ns k t then true else s' j) := by
  obtain ⟨h1, h2, h3, h4⟩ := h
  have hp := good_part hg hkl ht
  refine ⟨fun j hj => ?_, fun j hj => ?_, fun j hj => ?_, fun u hu => ?_⟩
  · show (if _ then _ else _) = true
    split
    · rfl
    · exact h1 j hj
  · show (if _ then _ else _) = _
    rw [if_neg (by omega)]; exact h2 j hj
  · simp only at hj
    split at hj
    · rename_i e; subst e
      obtain ⟨i, hi, hm⟩ := h3 k (by rw [h2 k (Nat.le_refl _)]; exact hk)
      exact ⟨i, hi, .part k t hm ht⟩
    · exact h3 j hj
  · show (if _ then _ else _) = true
    split
    · rfl
    · rename_i hne
      refine h4 u ?_
      rcases Nat.lt_or_ge u t with h | h
      · exact h
      · obtain rfl : u = t := by omega
        exact absurd rfl hne
theorem MStepL.done {ns : List ND} {S : Nat → Prop} {k t : Nat} {s s' : Nat → Bool} (h : MInvL ns S (k + 1) s) (hs : MStepL ns S k t s s') (ht : pcAt ns k ≤ t) : MInvL ns S k s' := by
  obtain ⟨h1, h2, h3, h4⟩ := hs
  refine ⟨fun i hi => h1 _ (h.1 i hi), h3, fun j hj hsj u hu => ?_⟩
  rcases Nat.lt_or_ge k j with hlt | hge
  · exact h1 _ (h.2.2 j hlt (by rw [← h2 j hj]; exact hsj) u hu)
  · obtain rfl : j = k := by omega
    exact h4 u (by omega)
theorem madeL_one {ns : List ND} {a j : Nat} : MadeL ns (fun i => (i : Int) ∈ [(a : Int)]) j ↔ MadeOf ns a j := by
  constructor
  · rintro ⟨i, hi, hm⟩
    have e : (i : Int) = (a : Int) := by simpa using hi
    obtain rfl : i = a := by omega
    exact hm
  · intro h
    exact ⟨a, by simp, h⟩
end Go.Proofs.YtbkcecilbpngcaaGreat
