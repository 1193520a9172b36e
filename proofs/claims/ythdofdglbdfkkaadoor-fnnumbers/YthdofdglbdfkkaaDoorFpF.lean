/-
  Mathematics of a set and its numbers: what is told of a list makes the set of just these.
-/
import Derived.Test.YthdofdglbdfkkaaDoorRows
import Derived.Test.YthdofdglbdfkkaaDoorBdR
import Derived.Test.YthdofdglbdfkkaaDoorBdW
import Derived.Test.YthdofdglbdfkkaaDoorBdP
import Derived.Test.YthdofdglbdfkkaaDoorFpB
import Derived.Test.YthdofdglbdfkkaaDoorFpE
import Derived.Test.YthdofdglbdfkkaaDoorFoE
import Derived.Test.YthdofdglbdfkkaaDoorFoF
import Derived.Test.YthdofdglbdfkkaaDoorFoD
namespace Go.Proofs.YthdofdglbdfkkaaDoor
open Go.ChangeShapes Go.WideShapes Go.ChangeAt Go.RowKit Go.Maps Go.ChangeMaps
set_option linter.unusedVariables false
set_option maxRecDepth 100000

theorem CondR.yes {P : Prop} {vars : Int} {f : Int → Bool} {V : Int} {ms : List BN} {R : Int} (h : CondR P vars f V ms R true) : P ∧ AnsR vars f V ms R true := by
  rcases h with h | ⟨-, -, -, -, h⟩
  · exact h
  · cases h
open Classical in
theorem codesF_mem {vars c : Int} {l : List Int} (hl : ∀ x ∈ l, 0 ≤ x ∧ x < 2 ^ vars.toNat) (hc : 0 ≤ c ∧ c < 2 ^ vars.toNat) : codesF vars 0 l c = true ↔ c ∈ l := by
  unfold codesF
  rw [decide_eq_true_iff]
  constructor
  · rintro ⟨x, hx, hv⟩
    rw [eq_of_bits hc (hl x hx) (fun v h0 h1 => (hv v h0 h1).symm)]
    exact hx
  · intro h
    exact ⟨c, h, fun v _ _ => rfl⟩
theorem cds_mem {ns : List BN} {p x : Int} : ∀ {k : Nat}, x ∈ cds ns p k ↔ ∃ j : Nat, j < k ∧ x = j ∧ endB ns j ns.length p = true := by
  intro k
  induction k with
  | zero => simp [cds]
  | succ k ih =>
    rw [cds]
    constructor
    · intro h
      split at h
      · rename_i he
        rw [List.mem_append] at h
        rcases h with h | h
        · obtain ⟨j, h1, h2, h3⟩ := ih.1 h
          exact ⟨j, by omega, h2, h3⟩
        · exact ⟨k, by omega, by simpa using h, he⟩
      · obtain ⟨j, h1, h2, h3⟩ := ih.1 h
        exact ⟨j, by omega, h2, h3⟩
    · rintro ⟨j, h1, h2, h3⟩
      by_cases e : j = k
      · subst e
        rw [if_pos h3]
        simp [h2]
      · have := ih.2 ⟨j, by omega, h2, h3⟩
        split
        · exact List.mem_append_left _ this
        · exact this
theorem cds_sorted {ns : List BN} {p : Int} : ∀ {k : Nat}, (cds ns p k).Pairwise (· < ·) := by
  intro k
  induction k with
  | zero => simp [cds]
  | succ k ih =>
    rw [cds]
    split
    · rw [List.pairwise_append]
      refine ⟨ih, by simp, fun a ha b hb => ?_⟩
      obtain ⟨j, h1, h2, -⟩ := cds_mem.1 ha
      simp at hb
      omega
    · exact ih
theorem sorted_at {l : List Int} (h : l.Pairwise (· < ·)) {i j : Nat} (hij : i < j) (hj : j < l.length) : l.getD i 0 < l.getD j 0 := by
  have hi : i < l.length := by omega
  rw [List.getD_eq_getElem?_getD, List.getD_eq_getElem?_getD, List.getElem?_eq_getElem hi, List.getElem?_eq_getElem hj]
  exact List.pairwise_iff_getElem.1 h i j hi hj hij
/-- A number is told just if the set has it. -/
theorem cds_has {vars : Int} {ns : List BN} {r x : Int} (h : OkB vars ns r) : x ∈ cds ns r (2 ^ vars.toNat) ↔ (0 ≤ x ∧ x < 2 ^ vars.toNat) ∧ HasP ns r x := by
  have hp : r < (ns.length : Int) + 2 := by have := h.hr.2; omega
  rw [cds_mem]
  constructor
  · rintro ⟨j, h1, rfl, h3⟩
    refine ⟨⟨by omega, by rw [← p2_nat]; omega⟩, (endB_has h.fine _ _ r hp hp).1 h3⟩
  · rintro ⟨⟨h0, h1⟩, h2⟩
    refine ⟨x.toNat, by rw [← p2_nat] at h1; omega, by omega, ?_⟩
    rw [show ((x.toNat : Nat) : Int) = x by omega]
    exact (endB_has h.fine _ _ r hp hp).2 h2
theorem ind_le (l : List Int) (a : Int) (k : Nat) : sumR (fun c => if c ∈ l then 1 else 0) a k ≤ l.length := by
  induction l with
  | nil =>
    have : sumR (fun c => if c ∈ ([] : List Int) then 1 else 0) a k = 0 := by
      induction k with
      | zero => rfl
      | succ k ih => rw [sumR, ih]; simp
    rw [this]; exact Int.le_refl _
  | cons x l ih =>
    have one : ∀ k : Nat, 0 ≤ sumR (fun c => if c = x then 1 else 0) a k ∧ sumR (fun c => if c = x then 1 else 0) a k ≤ 1 ∧ (x ≥ a + k → sumR (fun c => if c = x then 1 else 0) a k = 0) := fun k => by
      induction k with
      | zero => exact ⟨Int.le_refl _, (show (0 : Int) ≤ 1 by decide), fun _ => rfl⟩
      | succ k ih =>
        rw [sumR]
        by_cases e : a + (k : Int) = x
        · have := ih.2.2 (by omega)
          rw [if_pos e, this]
          exact ⟨by decide, by decide, fun h => by omega⟩
        · rw [if_neg e]
          exact ⟨by omega, by omega, fun h => by have := ih.2.2 (by omega); omega⟩
    have le : ∀ k : Nat, sumR (fun c => if c ∈ x :: l then 1 else 0) a k ≤ sumR (fun c => if c = x then 1 else 0) a k + sumR (fun c => if c ∈ l then 1 else 0) a k := fun k => by
      induction k with
      | zero => exact (show (0 : Int) ≤ 0 + 0 by decide)
      | succ k ih =>
        simp only [sumR, List.mem_cons]
        by_cases e1 : a + (k : Int) = x <;> by_cases e2 : a + (k : Int) ∈ l <;> simp [e1, e2] <;> (simp only [List.mem_cons] at ih; omega)
    have h1 := (one k).2.1
    have h2 := le k
    rw [List.length_cons]
    omega
/-- What a list makes has no more numbers than the list. -/
theorem from_facts {n : Int} {l : List Int} {V : Int} {ms : List BN} {R : Int} (h : CondR (FromP n l) n (fun c => codesF n 0 l c) V ms R true) :
    n = V ∧ OkB n ms R ∧ (∀ x, x ∈ l ↔ (0 ≤ x ∧ x < 2 ^ n.toNat) ∧ HasP ms R x) ∧ cntP n ms R ≤ 256 ∧ l.length ≤ 256 ∧ AnsR n (fun c => codesF n 0 l c) n ms R true := by
  obtain ⟨hP, hA⟩ := h.yes
  have hv : 0 ≤ n ∧ n ≤ 13 := of_decide_eq_true hP.1
  obtain ⟨e, ho, he, -⟩ := hA.is hv
  subst e
  have hm : ∀ x, x ∈ l ↔ (0 ≤ x ∧ x < 2 ^ V.toNat) ∧ HasP ms R x := fun x => by
    constructor
    · intro hx
      have hr := hP.2.2 x hx
      exact ⟨hr, evF_has.1 (by rw [he x hr.1 hr.2]; exact (codesF_mem hP.2.2 hr).2 hx)⟩
    · rintro ⟨hr, hh⟩
      exact (codesF_mem hP.2.2 hr).1 (by have := evF_has.2 hh; rw [he x hr.1 hr.2] at this; exact this)
  refine ⟨rfl, ho, hm, ?_, hP.2.1, hA⟩
  have h1 : cntP V ms R ≤ l.length := by
    refine Int.le_trans (Int.le_of_eq ?_) (ind_le l 0 (2 ^ V.toNat))
    unfold cntP
    refine sumR_congr (fun i hi => ?_)
    have hx : 0 ≤ (0 : Int) + (i : Int) ∧ (0 : Int) + (i : Int) < 2 ^ V.toNat := ⟨by omega, by rw [← p2_nat]; omega⟩
    rw [hasI_evF ho]
    by_cases hh : HasP ms R (0 + (i : Int))
    · rw [if_pos (evF_has.2 hh), if_pos ((hm _).2 ⟨hx, hh⟩)]
    · rw [if_neg (fun k => hh (evF_has.1 k)), if_neg (fun k => hh ((hm _).1 k).2)]
  have := hP.2.1
  omega
/-- The numbers that are told make the set again. -/
theorem from_again {n : Int} {l : List Int} {ms : List BN} {R : Int} (hv : varsB n = true) (ho : OkB n ms R) (hm : ∀ x, x ∈ l ↔ (0 ≤ x ∧ x < 2 ^ n.toNat) ∧ HasP ms R x) (hc : cntP n ms R ≤ 256) (hl : l.length ≤ 256)
    (hA : AnsR n (fun c => codesF n 0 l c) n ms R true) {V' : Int} {ms' : List BN} {R' : Int} {b : Bool} (h : CondR (FromP n (cds ms R (2 ^ n.toNat))) n (fun c => codesF n 0 (cds ms R (2 ^ n.toNat)) c) V' ms' R' b) :
    n = V' ∧ ms = ms' ∧ R = R' ∧ true = b := by
  have hlen : (cds ms R (2 ^ n.toNat)).length ≤ 256 := by have := cds_len ms R (2 ^ n.toNat); unfold cntP at hc; omega
  have hmem : ∀ x, x ∈ cds ms R (2 ^ n.toNat) ↔ x ∈ l := fun x => by rw [cds_has ho, hm]
  have hr1 : ∀ x ∈ cds ms R (2 ^ n.toNat), 0 ≤ x ∧ x < 2 ^ n.toNat := fun x hx => ((cds_has ho).1 hx).1
  have hr2 : ∀ x ∈ l, 0 ≤ x ∧ x < 2 ^ n.toNat := fun x hx => ((hm x).1 hx).1
  have hv' : 0 ≤ n ∧ n ≤ 13 := of_decide_eq_true hv
  rcases h with ⟨-, h⟩ | ⟨h, -⟩
  · exact hA.inj hv'.1 (h.congr (fun c h0 h1 => by
      rw [Bool.eq_iff_iff, codesF_mem hr1 ⟨h0, h1⟩, codesF_mem hr2 ⟨h0, h1⟩, hmem]))
  · exact absurd ⟨hv, hlen, hr1⟩ h
/-- The least is the first that is told. -/
theorem least_first {n : Int} {l : List Int} {ms : List BN} {R r : Int} {b : Bool} (ho : OkB n ms R) (hm : ∀ x, x ∈ l ↔ (0 ≤ x ∧ x < 2 ^ n.toNat) ∧ HasP ms R x) (h : LeastR n ms R r b) :
    (b = true ↔ 0 < l.length) ∧ (b = true → 0 < (cds ms R (2 ^ n.toNat)).length ∧ r = (cds ms R (2 ^ n.toNat)).getD 0 0) := by
  rcases h with ⟨h, -, -⟩ | ⟨-, rfl, h1, h2, h3⟩ | ⟨-, rfl, -, h3⟩
  · exact absurd ho h
  · have hr : r ∈ cds ms R (2 ^ n.toNat) := (cds_has ho).2 ⟨h1, h2⟩
    have hl : r ∈ l := (hm r).2 ⟨h1, h2⟩
    have h4 := List.length_pos_of_mem hr
    refine ⟨⟨fun _ => List.length_pos_of_mem hl, fun _ => rfl⟩, fun _ => ⟨h4, ?_⟩⟩
    have h5 : (cds ms R (2 ^ n.toNat)).getD 0 0 ∈ cds ms R (2 ^ n.toNat) := by
      rw [List.getD_eq_getElem?_getD, List.getElem?_eq_getElem h4]; exact List.getElem_mem ..
    have h6 := (cds_has ho).1 h5
    have h7 : ¬ (cds ms R (2 ^ n.toNat)).getD 0 0 < r := fun hlt => h3 _ h6.1.1 hlt h6.2
    obtain ⟨j, hj, hjr⟩ := List.getElem_of_mem hr
    have h8 : r = (cds ms R (2 ^ n.toNat)).getD j 0 := by rw [List.getD_eq_getElem?_getD, List.getElem?_eq_getElem hj]; exact hjr.symm
    rcases Nat.eq_zero_or_pos j with e | e
    · subst e; exact h8
    · have := sorted_at (cds_sorted (ns := ms) (p := R) (k := 2 ^ n.toNat)) e hj
      omega
  · refine ⟨⟨fun h => (by cases h), fun h => ?_⟩, fun h => (by cases h)⟩
    obtain ⟨x, xs, rfl⟩ := List.exists_cons_of_length_pos h
    have := (hm x).1 (List.mem_cons_self ..)
    exact absurd this.2 (h3 x this.1.1 this.1.2)
end Go.Proofs.YthdofdglbdfkkaaDoor
