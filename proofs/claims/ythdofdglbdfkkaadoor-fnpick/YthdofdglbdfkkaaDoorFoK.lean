/-
  A tree that is laid from the start is an ok diagram; a list of places without one twice.
-/
import Derived.Test.YthdofdglbdfkkaaDoorRows
import Derived.Test.YthdofdglbdfkkaaDoorBdM
import Derived.Test.YthdofdglbdfkkaaDoorFoA
import Derived.Test.YthdofdglbdfkkaaDoorFoB
namespace Go.Proofs.YthdofdglbdfkkaaDoor
open Go.ChangeShapes Go.WideShapes Go.ChangeAt Go.RowKit Go.Maps Go.ChangeMaps
set_option linter.unusedVariables false
set_option maxRecDepth 100000

/-- The places from 2 on, n of them. -/
def run2 (n : Nat) : List Int := (List.range n).map (fun i : Nat => (i : Int) + 2)
theorem run2_len (n : Nat) : (run2 n).length = n := by unfold run2; simp
theorem run2_mem {n : Nat} {p : Int} : p ∈ run2 n ↔ 2 ≤ p ∧ p < (n : Int) + 2 := by
  unfold run2
  rw [List.mem_map]
  constructor
  · rintro ⟨i, hi, rfl⟩
    rw [List.mem_range] at hi
    omega
  · intro h
    exact ⟨(p - 2).toNat, List.mem_range.2 (by omega), by omega⟩
theorem run2_succ (n : Nat) : run2 n ++ [(n : Int) + 2] = run2 (n + 1) := by
  unfold run2
  rw [List.range_succ, List.map_append]
  rfl
theorem run2_isC (n : Nat) : isC (run2 n) := fun i hi => by
  rw [run2_len] at hi
  unfold run2
  rw [List.getD_eq_getElem?_getD, List.getElem?_map, List.getElem?_range hi]
  rfl
/-- In a list that a tree was laid into the places come in the order in which they are done. -/
theorem Adds.ord {t : DT} {n0 n1 : List BN} {p : Int} (h : Adds t n0 n1 p) : ∀ (ms : List BN) (f : Nat), Ahead (n1 ++ ms) → p ≤ (f : Int) + 1 → 1 ≤ f → ord (n1 ++ ms) f p (run2 n0.length) = run2 n1.length := by
  induction h with
  | leaf b ns =>
    intro ms f hA hp hf
    obtain ⟨g, rfl⟩ : ∃ g, f = g + 1 := ⟨f - 1, by omega⟩
    unfold Go.Proofs.YthdofdglbdfkkaaDoor.ord
    rw [if_pos (by cases b <;> decide)]
  | @here v l h ns p ht =>
    intro ms f hA hp hf
    obtain ⟨g, rfl⟩ : ∃ g, f = g + 1 := ⟨f - 1, by omega⟩
    have hr := ht.rng
    obtain ⟨k, hk, rfl, -, -, -⟩ := ht.split
    unfold Go.Proofs.YthdofdglbdfkkaaDoor.ord
    rw [if_neg (by omega), if_pos (run2_mem.2 ⟨by omega, by omega⟩)]
  | @new v l h ns n1 n2 a b hno hl hh ih1 ih2 =>
    intro ms f hA hp hf
    obtain ⟨g, rfl⟩ : ∃ g, f = g + 1 := ⟨f - 1, by omega⟩
    obtain ⟨m1, rfl⟩ := hl.ext
    obtain ⟨m2, e2⟩ := hh.ext
    have hlen : ns.length ≤ n2.length := by rw [e2]; simp
    have ra := hl.tree.rng
    have rb := hh.tree.rng
    have hl1 : (ns ++ m1).length ≤ n2.length := by rw [e2]; simp
    have hgl : (n2.length : Int) + 1 ≤ g + 1 := by omega
    have hnode : (n2 ++ [(⟨v, a, b⟩ : BN)] ++ ms).getD ((n2.length : Int) + 2 - 2).toNat default = ⟨v, a, b⟩ := by
      have e3 : ((n2.length : Int) + 2 - 2).toNat = n2.length := by omega
      rw [e3, getD_app (by simp), getD_last]
    have q1 : Go.Proofs.YthdofdglbdfkkaaDoor.ord (n2 ++ [(⟨v, a, b⟩ : BN)] ++ ms) g a (run2 ns.length) = run2 (ns ++ m1).length := by
      have e4 : n2 ++ [(⟨v, a, b⟩ : BN)] ++ ms = (ns ++ m1) ++ (m2 ++ [(⟨v, a, b⟩ : BN)] ++ ms) := by rw [e2]; simp only [List.append_assoc]
      by_cases hg : 1 ≤ g
      · rw [e4] at hA ⊢
        exact ih1 _ g hA (by omega) hg
      · obtain rfl : g = 0 := by omega
        unfold Go.Proofs.YthdofdglbdfkkaaDoor.ord
        rw [show (ns ++ m1).length = ns.length by omega]
    have q2 : Go.Proofs.YthdofdglbdfkkaaDoor.ord (n2 ++ [(⟨v, a, b⟩ : BN)] ++ ms) g b (run2 (ns ++ m1).length) = run2 n2.length := by
      have e4 : n2 ++ [(⟨v, a, b⟩ : BN)] ++ ms = n2 ++ ([(⟨v, a, b⟩ : BN)] ++ ms) := by simp only [List.append_assoc]
      by_cases hg : 1 ≤ g
      · rw [e4] at hA ⊢
        exact ih2 _ g hA (by omega) hg
      · obtain rfl : g = 0 := by omega
        unfold Go.Proofs.YthdofdglbdfkkaaDoor.ord
        rw [show (ns ++ m1).length = n2.length by omega]
    unfold Go.Proofs.YthdofdglbdfkkaaDoor.ord
    rw [if_neg (by omega), if_neg (by rw [run2_mem]; omega), hnode]
    simp only
    rw [q1, q2, run2_succ]
    simp
/-- A tree of at most 600 nodes, laid from the start, is an ok diagram. -/
theorem Adds.ok {vars : Int} {t : DT} {ns : List BN} {p : Int} (hv : 0 ≤ vars ∧ vars ≤ 13) (hr : t.Red vars 0) (h : Adds t [] ns p) (hl : ns.length ≤ 600) : OkB vars ns p := by
  have hF := (h.all (Int.le_refl 0) hr (Frs.nil vars)).1
  have hp := h.tree.rng
  have ho : Go.Proofs.YthdofdglbdfkkaaDoor.ord ns (ns.length + 1) p [] = run2 ns.length := by
    have := h.ord [] (ns.length + 1) (by rw [List.append_nil]; exact Ahead.of hF.fine) (by omega) (by omega)
    rwa [List.append_nil] at this
  refine ⟨hv, hl, ⟨hp.1, by omega⟩, hF.fine, hF.once, ?_⟩
  rw [ho]
  exact ⟨run2_isC _, run2_len _⟩
/-- As many numbers below m as there are, none twice, are at most m. -/
theorem pigeon : ∀ (m n : Nat) (f : Nat → Nat), (∀ i, i < n → f i < m) → (∀ i j, i < n → j < n → f i = f j → i = j) → n ≤ m
  | 0, n, f, h1, h2 => by
    rcases Nat.eq_zero_or_pos n with h | h
    · omega
    · exact absurd (h1 0 h) (by omega)
  | m + 1, n, f, h1, h2 => by
    by_cases hx : ∃ i, i < n ∧ f i = m
    · obtain ⟨i, hi, hfi⟩ := hx
      have := pigeon m (n - 1) (fun j => f (if j < i then j else j + 1)) (fun j hj => by
        have hlt : (if j < i then j else j + 1) < n := by split <;> omega
        have h3 := h1 _ hlt
        have h4 : f (if j < i then j else j + 1) ≠ m := fun e => by
          have := h2 _ _ hlt hi (e.trans hfi.symm)
          split at this <;> omega
        show f (if j < i then j else j + 1) < m
        omega) (fun j k hj hk e => by
        have hjl : (if j < i then j else j + 1) < n := by split <;> omega
        have hkl : (if k < i then k else k + 1) < n := by split <;> omega
        have := h2 _ _ hjl hkl e
        split at this <;> split at this <;> omega)
      omega
    · have := pigeon m n f (fun i hi => by
        have h3 := h1 i hi
        have h4 : f i ≠ m := fun e => hx ⟨i, hi, e⟩
        omega) h2
      omega
end Go.Proofs.YthdofdglbdfkkaaDoor
