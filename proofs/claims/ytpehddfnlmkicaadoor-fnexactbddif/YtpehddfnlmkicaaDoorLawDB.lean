/-
  What the laws of two and three diagrams share.
-/
import Derived.Test.YtpehddfnlmkicaaDoorRows
import Derived.Test.YtpehddfnlmkicaaDoorPaA
import Derived.Test.YtpehddfnlmkicaaDoorG0
import Derived.Test.YtpehddfnlmkicaaDoorBdM
import Derived.Test.YtpehddfnlmkicaaDoorBdI
import Derived.Test.YtpehddfnlmkicaaDoorBdL
import Derived.Test.YtpehddfnlmkicaaDoorBdT
import Derived.Test.YtpehddfnlmkicaaDoorBdC
import Derived.Test.YtpehddfnlmkicaaDoorBdN
import Derived.Test.YtpehddfnlmkicaaDoorBdX
import Derived.Test.YtpehddfnlmkicaaDoorBdY
import Derived.Test.YtpehddfnlmkicaaDoorFoE
import Derived.WalkKit
import Derived.ProofKit
import Derived.OpenShut
import Derived.WalkSpells
import Derived.WalkLawsBesides
import Derived.Outline
import Derived.BigQuiet
import Derived.Handy
import Derived.LoopTactic
import Derived.Deep.Light
import Derived.Deep.RegionWith
import Derived.Deep.RegionHeld3
import Derived.Deep.DeepCutAuto
import Derived.Lib.Hide
import Derived.Maps.OwnRows
import Derived.Deep.Onto
import Derived.OneCell
import Derived.StillTailTactics
import Derived.Deep.AppendLies
import Derived.Deep.RegionLaw
namespace Go.Proofs.YtpehddfnlmkicaaDoor
open Go.ChangeShapes Go.WideShapes Go.ChangeAt Go.RowKit Go.Maps Go.ChangeMaps
set_option linter.unusedVariables false
set_option maxRecDepth 100000

def SzL (left : Int) (len : Nat) (w : World) (e : Ending) (w' : World) : Prop := ∃ r, e = .returned (.int .i64 r) ∧ r ≤ left ∧ (0 ≤ r → (len : Int) ≤ left) ∧ Below w.heap.size w w'
set_option maxHeartbeats 4000000 in
theorem c_szBddL {B : Nat} {a : Option Addr} {len cap : Nat} {ns : List BN} (vars root left : Int) (hl0 : 0 ≤ left) (hl1 : left ≤ 1048576) (w : World) (hBw : B ≤ w.heap.size) (h : BnsAt B w a len cap ns) :
    Calls Tryd.prog 17 #[.agg #[.int .i64 vars, .slice a len cap, .int .i64 root], .int .i64 left] w (SzL left len w) := by
  have HN := Go.Lib.hid h
  clear h
  go_enter Tryd.func17, Tryd.ntmps17
  go_upto_region 1 with fail
  refine code_gen (R := fun wb => wb.cell? ⟨w.heap.size, 1, none⟩ = some (.slice a len cap) ∧ Below w.heap.size w wb) ⟨by simp, by go_grown⟩ ?_
  rintro w0 ⟨x1, hB0⟩
  have HB0 := Go.Lib.hid hB0
  have HN0 := Go.Lib.hid (HN.out.below (hB0.mono hBw))
  clear hB0
  go_wp2_with fail
  refine (c_szBddNodeS (B := B) left hl0 hl1 w0 HN0.out).mono ?_
  rintro e w1 ⟨r, rfl, hr1, hr, hq⟩
  have HE := Go.Lib.hid (HB0.out.trans (hq.mono HB0.out.size))
  have HR := Go.Lib.hid hr
  clear hq hr x1
  by_cases hn : r < 0
  · go_wp2_with fail
    go_ret
    exact ⟨_, rfl, by omega, by omega, HE.out⟩
  · go_wp2_with fail
    go_ret
    exact ⟨_, rfl, hr1, HR.out, HE.out⟩

theorem keepb2 {g1 : Nat} {u1 v1 x1 : Value} {g2 : Nat} {u2 v2 x2 : Value} {w w' : World} (hb : Below w.heap.size w w') (l1 : g1 < w.heap.size) (c10 : w.cell? ⟨g1, 0, none⟩ = some u1) (c11 : w.cell? ⟨g1, 1, none⟩ = some v1) (c12 : w.cell? ⟨g1, 2, none⟩ = some x1) (l2 : g2 < w.heap.size) (c20 : w.cell? ⟨g2, 0, none⟩ = some u2) (c21 : w.cell? ⟨g2, 1, none⟩ = some v2) (c22 : w.cell? ⟨g2, 2, none⟩ = some x2) : w'.cell? ⟨g1, 0, none⟩ = some u1 ∧ w'.cell? ⟨g1, 1, none⟩ = some v1 ∧ w'.cell? ⟨g1, 2, none⟩ = some x1 ∧ w'.cell? ⟨g2, 0, none⟩ = some u2 ∧ w'.cell? ⟨g2, 1, none⟩ = some v2 ∧ w'.cell? ⟨g2, 2, none⟩ = some x2 := ⟨keepc hb l1 c10, keepc hb l1 c11, keepc hb l1 c12, keepc hb l2 c20, keepc hb l2 c21, keepc hb l2 c22⟩
theorem keepb3 {g1 : Nat} {u1 v1 x1 : Value} {g2 : Nat} {u2 v2 x2 : Value} {g3 : Nat} {u3 v3 x3 : Value} {w w' : World} (hb : Below w.heap.size w w') (l1 : g1 < w.heap.size) (c10 : w.cell? ⟨g1, 0, none⟩ = some u1) (c11 : w.cell? ⟨g1, 1, none⟩ = some v1) (c12 : w.cell? ⟨g1, 2, none⟩ = some x1) (l2 : g2 < w.heap.size) (c20 : w.cell? ⟨g2, 0, none⟩ = some u2) (c21 : w.cell? ⟨g2, 1, none⟩ = some v2) (c22 : w.cell? ⟨g2, 2, none⟩ = some x2) (l3 : g3 < w.heap.size) (c30 : w.cell? ⟨g3, 0, none⟩ = some u3) (c31 : w.cell? ⟨g3, 1, none⟩ = some v3) (c32 : w.cell? ⟨g3, 2, none⟩ = some x3) : w'.cell? ⟨g1, 0, none⟩ = some u1 ∧ w'.cell? ⟨g1, 1, none⟩ = some v1 ∧ w'.cell? ⟨g1, 2, none⟩ = some x1 ∧ w'.cell? ⟨g2, 0, none⟩ = some u2 ∧ w'.cell? ⟨g2, 1, none⟩ = some v2 ∧ w'.cell? ⟨g2, 2, none⟩ = some x2 ∧ w'.cell? ⟨g3, 0, none⟩ = some u3 ∧ w'.cell? ⟨g3, 1, none⟩ = some v3 ∧ w'.cell? ⟨g3, 2, none⟩ = some x3 := ⟨keepc hb l1 c10, keepc hb l1 c11, keepc hb l1 c12, keepc hb l2 c20, keepc hb l2 c21, keepc hb l2 c22, keepc hb l3 c30, keepc hb l3 c31, keepc hb l3 c32⟩
theorem bstp {w X w' : World} (h : Below w.heap.size w X) (hq : Below X.heap.size X w') : Below w.heap.size w w' := h.trans (hq.mono h.size)
/-- A block of noughts. -/
structure ZB (g : Nat) (w : World) : Prop where
  blk : w.heap[g]? = some (.cells #[.int .i64 0, .slice none 0 0, .int .i64 0] 24 (0, 0))
theorem ZB.lt {g : Nat} {w : World} (h : ZB g w) : g < w.heap.size := (Array.getElem?_eq_some_iff.1 h.blk).1
theorem ZB.new (w : World) : ZB w.heap.size (w.alloc (.cells #[.int .i64 0, .slice none 0 0, .int .i64 0] 24)) := ⟨(MapKept.heap_alloc _ _).1⟩
theorem ZB.newD (w : World) : ZB w.heap.size (w.alloc (.cells #[.int .i64 0, .slice none 0 0, .int .i64 0] 24)).drew := ⟨(MapKept.heap_alloc w (.cells #[.int .i64 0, .slice none 0 0, .int .i64 0] 24)).1⟩
theorem ZB.below {g : Nat} {w w' : World} (h : ZB g w) (hB : Below w.heap.size w w') : ZB g w' := ⟨(hB.block _ h.lt).trans h.blk⟩
/-- What the answer is, and where it lies, behind the region. -/
def CutW (Q : Int → List BN → Int → Bool → Prop) (w : World) (s6 s7 : Value) (wx : World) : Prop :=
  ∃ (g : Nat) (V R : Int) (q : Bool) (ms : List BN) (aw : Option Addr) (cw : Nat), s6 = .pointer (some ⟨g, 0, none⟩) ∧ s7 = .bool q ∧ w.heap.size ≤ g ∧ wx.heap[g]? = some (.cells #[.int .i64 V, .slice aw ms.length cw, .int .i64 R] 24 (0, 0)) ∧
    OwnN wx w.heap.size (.slice aw ms.length cw) ms ∧ Q V ms R q ∧ Below w.heap.size w wx
theorem cut_old {Q : Int → List BN → Int → Bool → Prop} {w w6 : World} {g base : Nat} {V R : Int} {q : Bool} {ms : List BN} {aw : Option Addr} {cw : Nat} (hz : ZB g w6) (hg : w.heap.size ≤ g) (hgb : g < base) (how : OwnN w6 base (.slice aw ms.length cw) ms) (hQ : Q V ms R q) (hq : Below w.heap.size w w6) :
    CutW Q w (.pointer (some ⟨g, 0, none⟩)) (.bool q) (((w6.setCell ⟨g, 0, none⟩ (.int .i64 V)).setCell ⟨g, 1, none⟩ (.slice aw ms.length cw)).setCell ⟨g, 2, none⟩ (.int .i64 R)) := by
  refine ⟨g, V, R, q, ms, aw, cw, rfl, rfl, hg, heap_setCell_same _ _ 2 _ _ _ (heap_setCell_same _ _ 1 _ _ _ (heap_setCell_same _ _ 0 _ _ _ hz.blk)), ?_, hQ, ?_⟩
  · refine OwnN.mono (OwnN.block how (fun y h1 _ _ => ?_)) (by omega)
    rw [heap_setCell_other _ _ _ _ (by show y ≠ g; omega), heap_setCell_other _ _ _ _ (by show y ≠ g; omega), heap_setCell_other _ _ _ _ (by show y ≠ g; omega)]
  · exact ((hq.setCell (p := ⟨g, 0, none⟩) hg _).setCell (p := ⟨g, 1, none⟩) hg _).setCell (p := ⟨g, 2, none⟩) hg _
theorem cut_new {Q : Int → List BN → Int → Bool → Prop} {w w6 : World} {base : Nat} {V R : Int} {q : Bool} {ms : List BN} {aw : Option Addr} {cw : Nat} (hb : w.heap.size ≤ base) (how : OwnN w6 base (.slice aw ms.length cw) ms) (hQ : Q V ms R q) (hq : Below w.heap.size w w6) :
    CutW Q w (.pointer (some ⟨w6.heap.size, 0, none⟩)) (.bool q) (w6.alloc (.cells #[.int .i64 V, .slice aw ms.length cw, .int .i64 R] 24)) := by
  have hg : w.heap.size ≤ w6.heap.size := hq.size
  refine ⟨w6.heap.size, V, R, q, ms, aw, cw, rfl, rfl, hg, (MapKept.heap_alloc _ _).1, ?_, hQ, hq.trans (Below.mono (show Below w6.heap.size w6 _ by go_grown) hg)⟩
  exact OwnN.mono (OwnN.block how (fun y _ h1 _ => Below.heap_alloc _ _ _ h1)) hb
theorem Room.touch {T : Nat → Prop} {w w' : World} {g n : Nat} (h : Room w g n) (ht : Touch T w w') (hg : ¬ T g) : Room w' g n := by
  have hb := ht.block g h.1 hg
  refine ⟨Nat.lt_of_lt_of_le h.1 ht.size, fun j hj => ?_⟩
  have := h.2 j hj
  rw [World.cell?_of_block (w := w) (a := ⟨g, 0 + j, none⟩) hb, World.frozen?_of_block (w := w) (a := ⟨g, 0 + j, none⟩) hb]
  exact this
end Go.Proofs.YtpehddfnlmkicaaDoor
