/-
  Mathematics of laws of sets: answers of few bits, one set has one diagram, numbers of sets.
-/
import Derived.Test.YthdofdglbdfkkaaDoorRows
import Derived.Test.YthdofdglbdfkkaaDoorFpB
import Derived.Test.YthdofdglbdfkkaaDoorFpL
import Derived.Test.YthdofdglbdfkkaaDoorFoE
namespace Go.Proofs.YthdofdglbdfkkaaDoor
open Go.ChangeShapes Go.WideShapes Go.ChangeAt Go.RowKit Go.Maps Go.ChangeMaps
set_option linter.unusedVariables false
set_option maxRecDepth 100000

/-- Answers to one set are alike. -/
theorem AnsR.same {vars : Int} {f g : Int → Bool} {ms ms' : List BN} {R R' : Int} {b b' : Bool} {V V' : Int} (hv : 0 ≤ vars) (h : AnsR vars f V ms R b) (k : AnsR vars g V' ms' R' b') (e : ∀ c, 0 ≤ c → c < 2 ^ vars.toNat → f c = g c) : SameB V ms R V' ms' R' := by
  have := (h.congr e).inj hv k
  exact ⟨this.1, this.2.1, this.2.2.1⟩
theorem CondR.yes {P : Prop} {vars : Int} {f : Int → Bool} {V : Int} {ms : List BN} {R : Int} (h : CondR P vars f V ms R true) : P ∧ AnsR vars f V ms R true := by
  rcases h with h | ⟨-, -, -, -, h⟩
  · exact h
  · cases h
theorem CondR.few {P : Prop} {vars : Int} {f : Int → Bool} {V : Int} {ms : List BN} {R : Int} {b : Bool} (h : CondR P vars f V ms R b) (hP : P) (hv : 0 ≤ vars ∧ vars ≤ 6) :
    vars = V ∧ b = true ∧ AnsR vars f vars ms R true ∧ OkB vars ms R ∧ ∀ c, 0 ≤ c → c < 2 ^ vars.toNat → evF ms R c = f c := by
  rcases h with ⟨-, h⟩ | ⟨h, -⟩
  · have hb := h.small hv.2
    subst hb
    have i := h.is ⟨hv.1, by omega⟩
    have e := i.1
    subst e
    exact ⟨rfl, rfl, h, i.2.1, i.2.2.1⟩
  · exact absurd hP h
theorem ansR_no {vars : Int} : AnsR vars (fun _ => false) vars [] 0 true :=
  ⟨.leaf false, trivial, fun _ _ _ => rfl, [], 0, .leaf false [], .inl ⟨by decide, rfl, rfl, rfl, rfl⟩⟩
end Go.Proofs.YthdofdglbdfkkaaDoor
