/-
  BddUses: both sides.
-/
import Derived.Test.YthdofdglbdfkkaaDoorRows
import Derived.Test.YthdofdglbdfkkaaDoorG0
import Derived.Test.YthdofdglbdfkkaaDoorBdM
import Derived.Test.YthdofdglbdfkkaaDoorBdI
import Derived.Test.YthdofdglbdfkkaaDoorBdJ
import Derived.Test.YthdofdglbdfkkaaDoorBdK
import Derived.Test.YthdofdglbdfkkaaDoorBdL
import Derived.Test.YthdofdglbdfkkaaDoorBdS
import Derived.Test.YthdofdglbdfkkaaDoorBdT
import Derived.WalkKit
import Derived.ProofKit
import Derived.OpenShut
import Derived.WalkSpells
import Derived.WalkLawsBesides
import Derived.Outline
import Derived.BigQuiet
import Derived.Handy
import Derived.LoopTactic
import Derived.Deep.Light
import Derived.Deep.RegionWith
import Derived.Deep.RegionHeld3
import Derived.Deep.DeepCutAuto
import Derived.Lib.Hide
import Derived.Maps.OwnRows
import Derived.Deep.Onto
import Derived.OneCell
import Derived.StillTailTactics
import Derived.Deep.AppendLies
import Derived.Deep.RegionLaw
namespace Go.Proofs.YthdofdglbdfkkaaDoor
open Go.ChangeShapes Go.WideShapes Go.ChangeAt Go.RowKit Go.Maps Go.ChangeMaps
set_option linter.unusedVariables false
set_option maxRecDepth 100000


def AskedP (c : Int) (ns : List BN) : Prop := ∃ k : Nat, k < ns.length ∧ (ns.getD k default).v = c
def UseP (vars root c : Int) (ns : List BN) : Prop := OkB vars ns root ∧ AskedP c ns

set_option maxHeartbeats 4000000 in
theorem c_bu1 {g : Nat} (x : BN) (c : Int) (w : World) (hgw : g < w.heap.size) (hg : w.cell? ⟨g, 0, none⟩ = some (.int .i64 c)) :
    Calls Tryd.prog 62 #[.agg #[.int .i64 x.v, .int .i64 x.lo, .int .i64 x.hi], .pointer (some ⟨g, 0, none⟩)] w fun e w' => e = .returned (.bool (x.v == c)) ∧ Below w.heap.size w w' := by
  go_enter Tryd.func62, Tryd.ntmps62
  go_upto_region 1 with fail
  refine code_gen (R := fun wb => wb.cell? ⟨w.heap.size, 0, none⟩ = some (.int .i64 x.v) ∧ Below w.heap.size w wb) ⟨by simp, by go_grown⟩ ?_
  rintro w0 ⟨x0, hB0⟩
  have y0 := keepc hB0 hgw hg
  have HB := Go.Lib.hid hB0
  clear hB0 hg
  go_wp2_with fail
  go_ret
  exact ⟨rfl, HB.out⟩

set_option maxHeartbeats 8000000 in
theorem c_IndexFuncN {B g : Nat} {a : Option Addr} {len cap : Nat} {ns : List BN} (c : Int) (w : World) (hBw : B ≤ w.heap.size) (hgw : g < w.heap.size) (hg : w.cell? ⟨g, 0, none⟩ = some (.int .i64 c)) (h : BnsAt B w a len cap ns) :
    Calls Tryd.prog 89 #[.slice a len cap, .func (.func 62) #[] #[.pointer (some ⟨g, 0, none⟩)]] w fun e w' => ∃ r : Int, e = .returned (.int .i64 r) ∧ ((r = -1 ∧ ¬ AskedP c ns) ∨ (0 ≤ r ∧ AskedP c ns)) ∧ Below w.heap.size w w' := by
  have HN := Go.Lib.hid h
  have HGC := Go.Lib.hid hg
  have hnl : ns.length = len := h.1
  have HNL := Go.Lib.hid hnl
  have hm := Nat.le_trans h.2.1 h.2.2.1
  unfold maxLen at hm
  clear h hnl hg
  go_enter Tryd.func89, Tryd.ntmps89
  go_wp2_with fail
  go_loopw [8] (fun i wr => ∃ k : Nat, k ≤ len ∧ i = .int .i64 k ∧ (∀ t, t < k → (ns.getD t default).v ≠ c) ∧ Below w.heap.size w wr) (fun i _ => len - (intOf i).toNat)
  case atStart => exact ⟨0, by omega, rfl, fun t h => by omega, Below.refl _ _⟩
  case round =>
    obtain ⟨k, hk, rfl, hno, hB⟩ := hrel
    have HNO := Go.Lib.hid hno
    have HB := Go.Lib.hid hB
    clear hno hB
    by_cases hkl : k < len
    · have hki : (k : Int) < len := by omega
      obtain ⟨x, b, off, hx, -, rfl, hbB, c0, c1, c2⟩ := bn_at (HN.out.below (HB.out.mono hBw)) hkl
      have HX := Go.Lib.hid hx
      have HC := Go.Lib.hid (c_bu1 (g := g) x c wr (by have := HB.out.size; omega) ((HB.out.cell (p := ⟨g, 0, none⟩) hgw).trans HGC.out))
      clear hx
      cases ho : (x.v == c) with
      | true =>
        rw [ho] at HC
        have HO := Go.Lib.hid (show x.v = c by simpa using ho)
        clear ho
        go_wp2_with fail
        refine HC.out.mono ?_
        rintro e w1 ⟨rfl, hq1⟩
        have HB1 := Go.Lib.hid (HB.out.trans (hq1.mono HB.out.size))
        clear hq1 c0 c1 c2
        go_wp2_with fail
        go_ret
        exact ⟨_, rfl, .inr ⟨by omega, k, by have := HNL.out; omega, by rw [← HX.out]; exact HO.out⟩, HB1.out⟩
      | false =>
        rw [ho] at HC
        have HO := Go.Lib.hid (show ¬ x.v = c by simpa using ho)
        clear ho
        go_wp2_with fail
        refine HC.out.mono ?_
        rintro e w1 ⟨rfl, hq1⟩
        have HB1 := Go.Lib.hid (HB.out.trans (hq1.mono HB.out.size))
        clear hq1 c0 c1 c2
        go_wp2_with fail
        go_roundw
        case rel => exact ⟨k + 1, by omega, by go_num, fun t ht => by
          rcases Nat.lt_or_ge t k with h | h
          · exact HNO.out t h
          · obtain rfl : t = k := by omega
            rw [← HX.out]; exact HO.out, HB1.out⟩
        case measure => simp [intOf] <;> omega
    · have hki : ¬ (k : Int) < len := by omega
      go_wp2_with fail
      go_ret
      exact ⟨_, rfl, .inl ⟨rfl, fun ⟨t, ht, e⟩ => HNO.out t (by have := HNL.out; omega) e⟩, HB.out⟩

set_option maxHeartbeats 4000000 in
theorem c_ContainsFuncN {B g : Nat} {a : Option Addr} {len cap : Nat} {ns : List BN} (c : Int) (w : World) (hBw : B ≤ w.heap.size) (hgw : g < w.heap.size) (hg : w.cell? ⟨g, 0, none⟩ = some (.int .i64 c)) (h : BnsAt B w a len cap ns) :
    Calls Tryd.prog 61 #[.slice a len cap, .func (.func 62) #[] #[.pointer (some ⟨g, 0, none⟩)]] w fun e w' => BoolIs (AskedP c ns) e ∧ Below w.heap.size w w' := by
  have HC := Go.Lib.hid (c_IndexFuncN c w hBw hgw hg h)
  clear h hg
  go_enter Tryd.func61, Tryd.ntmps61
  go_wp2_with fail
  refine HC.out.mono ?_
  rintro e w1 ⟨r, rfl, hr, hq⟩
  have HQ := Go.Lib.hid hq
  have HR := Go.Lib.hid hr
  clear hr hq
  go_wp2_with fail
  go_ret
  refine ⟨⟨_, rfl, ?_⟩, HQ.out⟩
  rcases HR.out with ⟨h1, h2⟩ | ⟨h1, h2⟩
  · simp [h1, h2]
  · simp [h1, h2]

set_option maxHeartbeats 8000000 in
theorem c_BddUsesI {B : Nat} {a : Option Addr} {len cap : Nat} {ns : List BN} (vars root c : Int) (w : World) (hBw : B ≤ w.heap.size) (h : BnsAt B w a len cap ns) :
    Calls Tryd.prog 20 #[.agg #[.int .i64 vars, .slice a len cap, .int .i64 root], .int .i64 c] w fun e w' => BoolIs (UseP vars root c ns) e ∧ Below w.heap.size w w' := by
  have HN := Go.Lib.hid h
  have hmf : ∀ (fn : Fn) (first cap : Array Value) (w : World), (Instr.makeFunc fn first cap).run Tryd.prog w = .ok (.func fn first cap) w := fun _ _ _ _ => rfl
  clear h
  go_enter Tryd.func20, Tryd.ntmps20
  go_upto_region 1 with fail
  refine code_gen (R := fun wb => BBox vars a len cap root w wb ∧ w.heap.size + 1 < wb.heap.size ∧ wb.cell? ⟨w.heap.size + 1, 0, none⟩ = some (.int .i64 c)) ⟨(BBox.new _ _ _ _ _ _).below (by go_grown), by simp, by simp⟩ ?_
  rintro w0 ⟨hbox, hlt, x3⟩
  have HX0 := Go.Lib.hid hbox
  obtain ⟨x0, x1, x2⟩ := hbox.cells
  have HN0 := Go.Lib.hid (HN.out.below (hbox.bel.mono hBw))
  have hB0 : B ≤ w0.heap.size := Nat.le_trans hBw hbox.bel.size
  clear hbox
  go_wp2_with fail
  refine (c_BddOkI (B := B) vars root w0 hB0 HN0.out).mono ?_
  rintro e w1 ⟨hb, hq⟩
  have HX1 := Go.Lib.hid (HX0.out.below hq)
  have HN1 := Go.Lib.hid (HN0.out.below (hq.mono hB0))
  have hB1 : B ≤ w1.heap.size := Nat.le_trans hB0 hq.size
  have y3 := keepc hq hlt x3
  have hlt1 := Nat.lt_of_lt_of_le hlt hq.size
  clear hq x0 x1 x2 x3
  obtain ⟨x0, x1, x2⟩ := HX1.out.cells
  by_cases ho : OkB vars ns root
  rotate_left
  · obtain rfl := boolIs_f ho hb
    have HO := Go.Lib.hid ho
    clear ho hb
    go_wp2_with fail
    go_ret
    exact ⟨BoolIs.no (fun h => HO.out h.1), HX1.out.bel⟩
  obtain rfl := boolIs_t ho hb
  have HO := Go.Lib.hid ho
  clear ho hb
  have HC := Go.Lib.hid (c_ContainsFuncN (B := B) (g := w.heap.size + 1) c w1 hB1 hlt1 y3 HN1.out)
  clear y3
  go_wp2_with fail
  refine HC.out.mono ?_
  rintro e w2 ⟨⟨r, rfl, hr⟩, hq⟩
  have HR := Go.Lib.hid hr
  have HE := Go.Lib.hid (HX1.out.bel.trans (hq.mono HX1.out.bel.size))
  clear hr hq x0 x1 x2 hmf
  go_wp2_with fail
  go_ret
  exact ⟨⟨r, rfl, HR.out.trans ⟨fun h => ⟨HO.out, h⟩, fun h => h.2⟩⟩, HE.out⟩

end Go.Proofs.YthdofdglbdfkkaaDoor
