/-
  Mathematics of answers that are diagrams: what they are, how large they may be, which bits they hang on.
-/
import Derived.Test.YthdofdglbdfkkaaDoorRows
import Derived.Test.YthdofdglbdfkkaaDoorFoA
import Derived.Test.YthdofdglbdfkkaaDoorFoB
import Derived.Test.YthdofdglbdfkkaaDoorFoL
import Derived.Test.YthdofdglbdfkkaaDoorFoK
import Derived.Test.YthdofdglbdfkkaaDoorFoY
namespace Go.Proofs.YthdofdglbdfkkaaDoor
open Go.ChangeShapes Go.WideShapes Go.ChangeAt Go.RowKit Go.Maps Go.ChangeMaps
set_option linter.unusedVariables false
set_option maxRecDepth 100000

/-- What an answer is that was not too large. -/
theorem AnsR.is {vars : Int} {f : Int → Bool} {V : Int} {ms : List BN} {R : Int} (hv : 0 ≤ vars ∧ vars ≤ 13) (h : AnsR vars f V ms R true) :
    V = vars ∧ OkB vars ms R ∧ (∀ c, 0 ≤ c → c < 2 ^ vars.toNat → evF ms R c = f c) ∧ ∃ t : DT, t.Red vars 0 ∧ (∀ c, 0 ≤ c → c < 2 ^ vars.toNat → t.ev c = f c) ∧ Adds t [] ms R := by
  obtain ⟨t, h1, h2, ns, p, h3, h4⟩ := h
  rcases h4 with ⟨a1, rfl, rfl, rfl, -⟩ | ⟨-, -, -, -, h⟩
  · exact ⟨rfl, h3.ok hv h1 a1, fun c x y => (evF_tree h3.tree).trans (h2 c x y), t, h1, h2, h3⟩
  · cases h
/-- A diagram that is an answer is the answer to its own set. -/
theorem AnsR.self {vars : Int} {f : Int → Bool} {V : Int} {ms : List BN} {R : Int} (hv : 0 ≤ vars ∧ vars ≤ 13) (h : AnsR vars f V ms R true) : AnsR vars (fun c => evF ms R c) vars ms R true := by
  obtain ⟨e1, -, e2, -⟩ := h.is hv
  rw [← e1]
  exact e1 ▸ (h.congr (fun c a b => (e2 c a b).symm))
theorem Adds.size {t : DT} {n0 n' : List BN} {p : Int} (h : Adds t n0 n' p) : n'.length ≤ n0.length + t.sz := by
  induction h with
  | leaf b ns => exact Nat.le_add_right _ _
  | here ht => exact Nat.le_add_right _ _
  | @new v l h ns n1 n2 a b hno hl hh ih1 ih2 =>
    rw [List.length_append]
    show n2.length + 1 ≤ ns.length + (l.sz + h.sz + 1)
    omega
theorem Red.size {vars : Int} : ∀ (t : DT) (k : Int), t.Red vars k → t.sz + 1 ≤ 2 ^ (vars - k).toNat
  | .leaf b, k, h => Nat.one_le_two_pow
  | .node v l r, k, h => by
    obtain ⟨⟨h1, h2⟩, h3, h4, h5⟩ := h
    have i1 := Red.size l (v + 1) h4
    have i2 := Red.size r (v + 1) h5
    have e : (vars - v).toNat = (vars - (v + 1)).toNat + 1 := by omega
    have e2 : 2 ^ (vars - v).toNat ≤ 2 ^ (vars - k).toNat := Nat.pow_le_pow_right (by decide) (by omega)
    rw [e, Nat.pow_succ] at e2
    show l.sz + r.sz + 1 + 1 ≤ _
    omega
/-- Of few bits no diagram is too large. -/
theorem AnsR.small {vars : Int} {f : Int → Bool} {V : Int} {ms : List BN} {R : Int} {b : Bool} (hv : vars ≤ 6) (h : AnsR vars f V ms R b) : b = true := by
  obtain ⟨t, h1, h2, ns, p, h3, h4⟩ := h
  rcases h4 with ⟨-, -, -, -, h⟩ | ⟨h, -, -, -, -⟩
  · exact h
  · have a := h3.size
    have b := Red.size t 0 h1
    have c : 2 ^ (vars - 0).toNat ≤ 2 ^ 6 := Nat.pow_le_pow_right (by decide) (by omega)
    have d : ([] : List BN).length = 0 := rfl
    omega
/-- The diagram of one bit is not too large. -/
theorem AnsR.bit {vars i : Int} {V : Int} {ms : List BN} {R : Int} {b : Bool} (hv : 0 ≤ vars) (hi : 0 ≤ i ∧ i < vars) (h : AnsR vars (fun c => decide (bitN c i = 1)) V ms R b) : b = true := by
  obtain ⟨t, h1, h2, ns, p, h3, h4⟩ := h
  rcases h4 with ⟨-, -, -, -, h⟩ | ⟨h, -, -, -, -⟩
  · exact h
  · have e : t = .node i (.leaf false) (.leaf true) := by
      refine red_same (f := fun c => decide (bitN c i = 1)) hv h1 ⟨⟨hi.1, hi.2⟩, (by intro e; cases e), trivial, trivial⟩ h2 (fun c _ _ => ?_)
      simp only [DT.ev]
      split
      · rename_i hh; rw [hh]; rfl
      · rename_i hh; exact (decide_eq_false hh).symm
    subst e
    have a := h3.size
    have d : ([] : List BN).length = 0 := rfl
    have c : (DT.node i (.leaf false) (.leaf true)).sz = 1 := rfl
    omega
theorem ev_bits {vars c d : Int} : ∀ (t : DT) (k : Int), 0 ≤ k → t.Red vars k → (∀ v, 0 ≤ v → v < vars → bitN c v = bitN d v) → t.ev c = t.ev d
  | .leaf b, k, hk, h, e => rfl
  | .node v l r, k, hk, h, e => by
    obtain ⟨⟨h1, h2⟩, h3, h4, h5⟩ := h
    have i1 := ev_bits l (v + 1) (by omega) h4 e
    have i2 := ev_bits r (v + 1) (by omega) h5 e
    simp only [DT.ev]
    rw [i1, i2, e v (by omega) h2]
theorem bit_mod (c : Int) {n : Nat} {v : Int} (h0 : 0 ≤ v) (h1 : v < n) : bitN (c % 2 ^ n) v = bitN c v := by
  obtain ⟨a, rfl⟩ : ∃ a : Nat, v = a := ⟨v.toNat, by omega⟩
  obtain ⟨d, rfl⟩ : ∃ d, n = a + (d + 1) := ⟨n - a - 1, by omega⟩
  have e1 : c = c % 2 ^ (a + (d + 1)) + (c / 2 ^ (a + (d + 1)) * 2 ^ d * 2) * 2 ^ a := by
    have e2 := Int.mul_ediv_add_emod c (2 ^ (a + (d + 1)))
    have e3 : (2 : Int) ^ (a + (d + 1)) = 2 ^ d * 2 * 2 ^ a := by rw [pow_add', Int.pow_succ, Int.mul_comm]
    have e4 : c / 2 ^ (a + (d + 1)) * 2 ^ d * 2 * 2 ^ a = 2 ^ (a + (d + 1)) * (c / 2 ^ (a + (d + 1))) := by
      rw [Int.mul_assoc, Int.mul_assoc, ← Int.mul_assoc (2 ^ d), ← e3, Int.mul_comm]
    omega
  unfold bitN
  simp only [Int.toNat_natCast]
  conv => rhs; rw [e1]
  rw [div_add_mul _ _ _ (pow_pos' a)]
  generalize c / 2 ^ (a + (d + 1)) * 2 ^ d = k
  omega
theorem OkB.frs {vars : Int} {ns : List BN} {r : Int} (h : OkB vars ns r) : Frs vars ns := ⟨h.fine, h.once⟩
theorem OkB.inn {vars : Int} {ns : List BN} {r : Int} (h : OkB vars ns r) : InF ns r := ⟨h.hr.1, by have := h.hr.2; omega⟩
theorem OkB.tree {vars : Int} {ns : List BN} {r : Int} (h : OkB vars ns r) : ∃ t, TreeOf ns r t ∧ t.Red vars 0 := by
  obtain ⟨t, a, b⟩ := h.inn.tree h.frs
  exact ⟨t, a, b.mono (vAt_nonneg h.hv.1 h.frs h.inn).1⟩
theorem evF_mod {vars : Int} {ns : List BN} {r : Int} (h : OkB vars ns r) (c : Int) : evF ns r (c % 2 ^ vars.toNat) = evF ns r c := by
  obtain ⟨t, a, b⟩ := h.tree
  rw [evF_tree a, evF_tree a]
  exact ev_bits t 0 (Int.le_refl 0) b (fun v h0 h1 => bit_mod c h0 (by have := h.hv.1; omega))
end Go.Proofs.YthdofdglbdfkkaaDoor
