/-
  BddEval: both sides.
-/
import Derived.Test.YthdofdglbdfkkaaDoorRows
import Derived.Test.YthdofdglbdfkkaaDoorG0
import Derived.Test.YthdofdglbdfkkaaDoorBdM
import Derived.Test.YthdofdglbdfkkaaDoorBdI
import Derived.Test.YthdofdglbdfkkaaDoorBdL
import Derived.Test.YthdofdglbdfkkaaDoorBdS
import Derived.Test.YthdofdglbdfkkaaDoorBdT
import Derived.Test.YthdofdglbdfkkaaDoorBdE
import Derived.WalkKit
import Derived.ProofKit
import Derived.OpenShut
import Derived.WalkSpells
import Derived.WalkLawsBesides
import Derived.Outline
import Derived.BigQuiet
import Derived.Handy
import Derived.LoopTactic
import Derived.Deep.Light
import Derived.Deep.RegionWith
import Derived.Deep.RegionHeld3
import Derived.Deep.DeepCutAuto
import Derived.Lib.Hide
import Derived.Maps.OwnRows
import Derived.Deep.Onto
import Derived.OneCell
import Derived.StillTailTactics
import Derived.Deep.AppendLies
import Derived.Deep.RegionLaw
namespace Go.Proofs.YthdofdglbdfkkaaDoor
open Go.ChangeShapes Go.WideShapes Go.ChangeAt Go.RowKit Go.Maps Go.ChangeMaps
set_option linter.unusedVariables false
set_option maxRecDepth 100000


def EvlP (vars root c : Int) (ns : List BN) : Prop := OkB vars ns root ∧ (0 ≤ c ∧ c < 2 ^ vars.toNat) ∧ HasP ns root c
theorem c_bddCodeOk (vars c : Int) (h0 : 0 ≤ vars) (h1 : vars ≤ 13) (w : World) : Calls Tryd.prog 50 #[.int .i64 vars, .int .i64 c] w fun e w' => e = .returned (.bool (decide (0 ≤ c ∧ c < 2 ^ vars.toNat))) ∧ w' = w := by
  have hw := wrap_p2 (n := vars) (by omega)
  by_cases h : 0 ≤ c
  · go_enter Tryd.func50, Tryd.ntmps50
    go_wp2
    go_ret
    exact ⟨ret_bool (by simp [h]), rfl⟩
  · go_enter Tryd.func50, Tryd.ntmps50
    go_wp2
    go_ret
    exact ⟨ret_bool (by simp; omega), rfl⟩

set_option maxHeartbeats 8000000 in
theorem c_BddEvalI {B : Nat} {a : Option Addr} {len cap : Nat} {ns : List BN} (vars root c : Int) (w : World) (hBw : B ≤ w.heap.size) (h : BnsAt B w a len cap ns) :
    Calls Tryd.prog 14 #[.agg #[.int .i64 vars, .slice a len cap, .int .i64 root], .int .i64 c] w fun e w' => BoolIs (EvlP vars root c ns) e ∧ Below w.heap.size w w' := by
  have HN := Go.Lib.hid h
  clear h
  go_enter Tryd.func14, Tryd.ntmps14
  go_upto_region 1 with fail
  refine code_gen (R := fun wb => BBox vars a len cap root w wb) (BBox.new _ _ _ _ _ _) ?_
  intro w0 hbox
  have HX0 := Go.Lib.hid hbox
  obtain ⟨x0, x1, x2⟩ := hbox.cells
  have HN0 := Go.Lib.hid (HN.out.below (hbox.bel.mono hBw))
  have hB0 : B ≤ w0.heap.size := Nat.le_trans hBw hbox.bel.size
  clear hbox
  go_wp2_with fail
  refine (c_BddOkI (B := B) vars root w0 hB0 HN0.out).mono ?_
  rintro e w1 ⟨hb, hq⟩
  have HX1 := Go.Lib.hid (HX0.out.below hq)
  have HN1 := Go.Lib.hid (HN0.out.below (hq.mono hB0))
  have hB1 : B ≤ w1.heap.size := Nat.le_trans hB0 hq.size
  clear hq x0 x1 x2
  obtain ⟨x0, x1, x2⟩ := HX1.out.cells
  by_cases ho : OkB vars ns root
  rotate_left
  · obtain rfl := boolIs_f ho hb
    have HO := Go.Lib.hid ho
    clear ho hb
    go_wp2_with fail
    go_ret
    exact ⟨BoolIs.no (fun h => HO.out h.1), HX1.out.bel⟩
  obtain rfl := boolIs_t ho hb
  have HO := Go.Lib.hid ho
  have hv0 := ho.hv.1
  have hv1 := ho.hv.2
  clear ho hb
  have HI := Go.Lib.hid ((c_bddCodeOk vars c hv0 hv1 w1).mono fun e w' (h : _ ∧ w' = w1) => (⟨h.1, h.2.symm⟩ : _ ∧ w1 = w'))
  by_cases hc : 0 ≤ c ∧ c < 2 ^ vars.toNat
  rotate_left
  · rw [decide_eq_false hc] at HI
    have HC := Go.Lib.hid hc
    clear hc
    go_wp2_with fail
    refine HI.out.mono ?_
    rintro e w' ⟨rfl, rfl⟩
    go_wp2_with fail
    go_ret
    exact ⟨BoolIs.no (fun h => HC.out h.2.1), HX1.out.bel⟩
  rw [decide_eq_true hc] at HI
  have HC := Go.Lib.hid hc
  have hc0 := hc.1
  clear hc
  go_wp2_with fail
  refine HI.out.mono ?_
  rintro e w' ⟨rfl, rfl⟩
  go_wp2_with fail
  refine (c_bddHas (B := B) vars root c w1 hB1 HN1.out HO.out hc0).mono ?_
  rintro e w2 ⟨⟨r, rfl, hr⟩, hq⟩
  have HR := Go.Lib.hid hr
  have HE := Go.Lib.hid (HX1.out.bel.trans (hq.mono HX1.out.bel.size))
  clear hr hq x0 x1 x2
  go_wp2_with fail
  go_ret
  exact ⟨⟨r, rfl, HR.out.trans ⟨fun h => ⟨HO.out, HC.out, h⟩, fun h => h.2.2⟩⟩, HE.out⟩
end Go.Proofs.YthdofdglbdfkkaaDoor
