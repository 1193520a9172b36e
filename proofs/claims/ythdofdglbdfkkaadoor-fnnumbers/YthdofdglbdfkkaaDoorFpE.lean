/-
  Mathematics of laws of sets: answers of few bits, one set has one diagram, numbers of sets.
-/
import Derived.Test.YthdofdglbdfkkaaDoorRows
import Derived.Test.YthdofdglbdfkkaaDoorBdR
import Derived.Test.YthdofdglbdfkkaaDoorFpB
import Derived.Test.YthdofdglbdfkkaaDoorFpL
import Derived.Test.YthdofdglbdfkkaaDoorFoE
namespace Go.Proofs.YthdofdglbdfkkaaDoor
open Go.ChangeShapes Go.WideShapes Go.ChangeAt Go.RowKit Go.Maps Go.ChangeMaps
set_option linter.unusedVariables false
set_option maxRecDepth 100000

/-- Answers to one set are alike. -/
theorem AnsR.same {vars : Int} {f g : Int → Bool} {ms ms' : List BN} {R R' : Int} {b b' : Bool} {V V' : Int} (hv : 0 ≤ vars) (h : AnsR vars f V ms R b) (k : AnsR vars g V' ms' R' b') (e : ∀ c, 0 ≤ c → c < 2 ^ vars.toNat → f c = g c) : SameB V ms R V' ms' R' := by
  have := (h.congr e).inj hv k
  exact ⟨this.1, this.2.1, this.2.2.1⟩
theorem CondR.few {P : Prop} {vars : Int} {f : Int → Bool} {V : Int} {ms : List BN} {R : Int} {b : Bool} (h : CondR P vars f V ms R b) (hP : P) (hv : 0 ≤ vars ∧ vars ≤ 6) :
    vars = V ∧ b = true ∧ AnsR vars f vars ms R true ∧ OkB vars ms R ∧ ∀ c, 0 ≤ c → c < 2 ^ vars.toNat → evF ms R c = f c := by
  rcases h with ⟨-, h⟩ | ⟨h, -⟩
  · have hb := h.small hv.2
    subst hb
    have i := h.is ⟨hv.1, by omega⟩
    have e := i.1
    subst e
    exact ⟨rfl, rfl, h, i.2.1, i.2.2.1⟩
  · exact absurd hP h
theorem ansR_no {vars : Int} : AnsR vars (fun _ => false) vars [] 0 true :=
  ⟨.leaf false, trivial, fun _ _ _ => rfl, [], 0, .leaf false [], .inl ⟨by decide, rfl, rfl, rfl, rfl⟩⟩
theorem hasI_evF {vars : Int} {ns : List BN} {r c : Int} (h : OkB vars ns r) : hasI ns r c = if evF ns r c = true then 1 else 0 := by
  have hp : r < (ns.length : Int) + 2 := by have := h.hr.2; omega
  by_cases e : evF ns r c = true
  · rw [if_pos e, hasI_yes h.fine hp (evF_has.1 e)]
  · rw [if_neg e, hasI_no h.fine hp (fun k => e (evF_has.2 k))]
/-- The numbers of two sets by those of both and of one at least. -/
theorem cnt_both {vars : Int} {na nb nc nd : List BN} {a b c d : Int} (ha : OkB vars na a) (hb : OkB vars nb b) (hc : OkB vars nc c) (hd : OkB vars nd d)
    (h1 : ∀ x, 0 ≤ x → x < 2 ^ vars.toNat → evF nc c x = (evF na a x && evF nb b x)) (h2 : ∀ x, 0 ≤ x → x < 2 ^ vars.toNat → evF nd d x = (evF na a x || evF nb b x)) :
    cntP vars nc c + cntP vars nd d = cntP vars na a + cntP vars nb b := by
  unfold cntP
  rw [← sumR_plus, ← sumR_plus]
  refine sumR_congr (fun i hi => ?_)
  have hx : (0 : Int) + (i : Int) < 2 ^ vars.toNat := by rw [← p2_nat]; omega
  have hx0 : 0 ≤ (0 : Int) + (i : Int) := by omega
  show hasI nc c _ + hasI nd d _ = hasI na a _ + hasI nb b _
  rw [hasI_evF ha, hasI_evF hb, hasI_evF hc, hasI_evF hd, h1 _ hx0 hx, h2 _ hx0 hx]
  cases evF na a (0 + (i : Int)) <;> cases evF nb b (0 + (i : Int)) <;> decide
theorem CountR.is {vars : Int} {ns : List BN} {root r : Int} (h : CountR vars ns root r) (ho : OkB vars ns root) (hv : vars ≤ 13) : r = cntP vars ns root ∧ 0 ≤ r ∧ r ≤ 8192 := by
  have e : r = cntP vars ns root := by
    rcases h with ⟨h, -⟩ | ⟨-, h⟩
    · exact absurd ho h
    · exact h
  have b := cntP_bound vars ns root
  have p := p2_13 ho.hv.1 hv
  exact ⟨e, by omega, by omega⟩
end Go.Proofs.YthdofdglbdfkkaaDoor
