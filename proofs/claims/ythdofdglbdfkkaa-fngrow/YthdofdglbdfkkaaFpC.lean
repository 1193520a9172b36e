/-
  Mathematics of laws of sets: answers of few bits, one set has one diagram, numbers of sets.
-/
import Derived.Test.YthdofdglbdfkkaaRows
import Derived.Test.YthdofdglbdfkkaaBdR
import Derived.Test.YthdofdglbdfkkaaFpB
import Derived.Test.YthdofdglbdfkkaaFpE
import Derived.Test.YthdofdglbdfkkaaFpL
import Derived.Test.YthdofdglbdfkkaaFoE
namespace Go.Proofs.Ythdofdglbdfkkaa
open Go.ChangeShapes Go.WideShapes Go.ChangeAt Go.RowKit Go.Maps Go.ChangeMaps
set_option linter.unusedVariables false
set_option maxRecDepth 100000

theorem hasI_evF {vars : Int} {ns : List BN} {r c : Int} (h : OkB vars ns r) : hasI ns r c = if evF ns r c = true then 1 else 0 := by
  have hp : r < (ns.length : Int) + 2 := by have := h.hr.2; omega
  by_cases e : evF ns r c = true
  · rw [if_pos e, hasI_yes h.fine hp (evF_has.1 e)]
  · rw [if_neg e, hasI_no h.fine hp (fun k => e (evF_has.2 k))]
/-- The numbers of two sets by those of both and of one at least. -/
theorem cnt_both {vars : Int} {na nb nc nd : List BN} {a b c d : Int} (ha : OkB vars na a) (hb : OkB vars nb b) (hc : OkB vars nc c) (hd : OkB vars nd d)
    (h1 : ∀ x, 0 ≤ x → x < 2 ^ vars.toNat → evF nc c x = (evF na a x && evF nb b x)) (h2 : ∀ x, 0 ≤ x → x < 2 ^ vars.toNat → evF nd d x = (evF na a x || evF nb b x)) :
    cntP vars nc c + cntP vars nd d = cntP vars na a + cntP vars nb b := by
  unfold cntP
  rw [← sumR_plus, ← sumR_plus]
  refine sumR_congr (fun i hi => ?_)
  have hx : (0 : Int) + (i : Int) < 2 ^ vars.toNat := by rw [← p2_nat]; omega
  have hx0 : 0 ≤ (0 : Int) + (i : Int) := by omega
  show hasI nc c _ + hasI nd d _ = hasI na a _ + hasI nb b _
  rw [hasI_evF ha, hasI_evF hb, hasI_evF hc, hasI_evF hd, h1 _ hx0 hx, h2 _ hx0 hx]
  cases evF na a (0 + (i : Int)) <;> cases evF nb b (0 + (i : Int)) <;> decide
theorem CountR.is {vars : Int} {ns : List BN} {root r : Int} (h : CountR vars ns root r) (ho : OkB vars ns root) (hv : vars ≤ 13) : r = cntP vars ns root ∧ 0 ≤ r ∧ r ≤ 8192 := by
  have e : r = cntP vars ns root := by
    rcases h with ⟨h, -⟩ | ⟨-, h⟩
    · exact absurd ho h
    · exact h
  have b := cntP_bound vars ns root
  have p := p2_13 ho.hv.1 hv
  exact ⟨e, by omega, by omega⟩
end Go.Proofs.Ythdofdglbdfkkaa
