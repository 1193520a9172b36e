/-
  Whether a diagram has a number: both sides.
-/
import Derived.Test.YthdofdglbdfkkaaDoorRows
import Derived.Test.YthdofdglbdfkkaaDoorG0
import Derived.Test.YthdofdglbdfkkaaDoorBdM
import Derived.Test.YthdofdglbdfkkaaDoorBdI
import Derived.Test.YthdofdglbdfkkaaDoorBdL
import Derived.Test.YthdofdglbdfkkaaDoorBdS
import Derived.Test.YthdofdglbdfkkaaDoorBdT
import Derived.WalkKit
import Derived.ProofKit
import Derived.OpenShut
import Derived.WalkSpells
import Derived.WalkLawsBesides
import Derived.Outline
import Derived.BigQuiet
import Derived.Handy
import Derived.LoopTactic
import Derived.Deep.Light
import Derived.Deep.RegionWith
import Derived.Deep.RegionHeld3
import Derived.Deep.DeepCutAuto
import Derived.Lib.Hide
import Derived.Maps.OwnRows
import Derived.Deep.Onto
import Derived.OneCell
import Derived.StillTailTactics
import Derived.Deep.AppendLies
import Derived.Deep.RegionLaw
namespace Go.Proofs.YthdofdglbdfkkaaDoor
open Go.ChangeShapes Go.WideShapes Go.ChangeAt Go.RowKit Go.Maps Go.ChangeMaps
set_option linter.unusedVariables false
set_option maxRecDepth 100000


/-- A bit of a number. -/
def bitN (c : Int) (v : Int) : Int := c / 2 ^ v.toNat % 2
/-- Where a number goes on. -/
def nxt (ns : List BN) (c : Int) (p : Int) : Int := if bitN c (ns.getD (p - 2).toNat default).v = 1 then (ns.getD (p - 2).toNat default).hi else (ns.getD (p - 2).toNat default).lo
/-- Where it ends. -/
inductive EndsAt (ns : List BN) (c : Int) : Int → Int → Prop
  | done (p : Int) (h : p < 2) : EndsAt ns c p p
  | step (p r : Int) (h : 2 ≤ p) (k : EndsAt ns c (nxt ns c p) r) : EndsAt ns c p r
theorem EndsAt.inj {ns : List BN} {c p r q : Int} (h : EndsAt ns c p r) (k : EndsAt ns c p q) : r = q := by
  induction h with
  | done p h => cases k with
    | done => rfl
    | step _ _ h' => omega
  | step p r h _ ih => cases k with
    | done _ h' => omega
    | step _ _ _ k' => exact ih k'
def HasP (ns : List BN) (root c : Int) : Prop := EndsAt ns c root 1
theorem nxt_ok {vars : Int} {ns : List BN} {c p : Int} (hf : ∀ k : Nat, k < ns.length → nFine vars ns k) (h2 : 2 ≤ p) (hp : p < (ns.length : Int) + 2) : 0 ≤ nxt ns c p ∧ nxt ns c p < p ∧ 0 ≤ (ns.getD (p - 2).toNat default).v ∧ (ns.getD (p - 2).toNat default).v < vars := by
  obtain ⟨h1, h3, h4, h5, h6, h7⟩ := hf (p - 2).toNat (by omega)
  unfold nxt
  split
  · exact ⟨h5.1, by omega, h1.1, h1.2⟩
  · exact ⟨h4.1, by omega, h1.1, h1.2⟩

set_option maxHeartbeats 8000000 in
theorem c_l7Has {B : Nat} {a : Option Addr} {len cap : Nat} {ns : List BN} (vars root c : Int) (w : World) (hBw : B ≤ w.heap.size) (h : BnsAt B w a len cap ns) (hok : OkB vars ns root) (hc : 0 ≤ c) :
    Calls Tryd.prog 43 #[.agg #[.int .i64 vars, .slice a len cap, .int .i64 root], .int .i64 c] w fun e w' => BoolIs (HasP ns root c) e ∧ Below w.heap.size w w' := by
  have HN := Go.Lib.hid h
  have hnl : ns.length = len := h.1
  have HF := Go.Lib.hid hok.fine
  have HNL := Go.Lib.hid hnl
  have hv1 := hok.hv.2
  have hr0 := hok.hr.1
  have hr1 : root ≤ (len : Int) + 1 := by have := hok.hr.2; omega
  have hl6 : len ≤ 600 := by have := hok.len; omega
  clear h hok hnl
  go_enter Tryd.func43, Tryd.ntmps43
  go_upto_region 1 with fail
  refine code_gen (R := fun wb => BBox vars a len cap root w wb) (BBox.new _ _ _ _ _ _) ?_
  intro w0 hbox
  have HX0 := Go.Lib.hid hbox
  obtain ⟨x0, x1, x2⟩ := hbox.cells
  clear hbox
  go_wp2_with fail
  go_loopw [5] (fun p wr => ∃ z : Int, p = .int .i64 z ∧ 0 ≤ z ∧ z ≤ (len : Int) + 1 ∧ (∀ r, EndsAt ns c z r → EndsAt ns c root r) ∧ BBox vars a len cap root w wr) (fun p _ => (intOf p).toNat)
  case atStart => exact ⟨root, rfl, hr0, hr1, fun r h => h, HX0.out⟩
  case round =>
    obtain ⟨z, rfl, hz0, hz1, hen, hbox⟩ := hrel
    have HEN := Go.Lib.hid hen
    have HX := Go.Lib.hid hbox
    clear hen hbox x0 x1 x2 HX0
    obtain ⟨x0, x1, x2⟩ := HX.out.cells
    by_cases hz : z < 2
    · have HZ1 := Go.Lib.hid hz
      have hzn : ¬ (2 : Int) ≤ z := by omega
      cases hz1b : (z == 1) with
      | true =>
        have HE := Go.Lib.hid (HEN.out z (.done z hz))
        have HZE := Go.Lib.hid (show z = 1 by simpa using hz1b)
        go_wp2_with fail
        go_ret
        exact ⟨BoolIs.yes (by have := HE.out; rw [HZE.out] at this; exact this), HX.out.bel⟩
      | false =>
        have HE := Go.Lib.hid (HEN.out z (.done z hz))
        have HZE := Go.Lib.hid (show ¬ z = 1 by simpa using hz1b)
        go_wp2_with fail
        go_ret
        exact ⟨BoolIs.no (fun h => HZE.out (HE.out.inj h)), HX.out.bel⟩
    · obtain ⟨q, hq⟩ : ∃ q : Nat, z = (q : Int) + 2 := ⟨(z - 2).toNat, by omega⟩
      subst hq
      have e3 : (q : Int) + 2 - 2 = q := by omega
      have hql : q < len := by omega
      have hqi : (q : Int) < len := by omega
      obtain ⟨x, b, off, hx, -, rfl, hbB, c0, c1, c2⟩ := bn_at (HN.out.below (HX.out.bel.mono hBw)) hql
      obtain ⟨n1, n2, n3, n4⟩ := nxt_ok (c := c) (p := (q : Int) + 2) HF.out (by omega) (by have := HNL.out; omega)
      have hgx : ns.getD ((q : Int) + 2 - 2).toNat default = x := by rw [hx]; congr 1; omega
      have HNX := Go.Lib.hid (show nxt ns c ((q : Int) + 2) = if bitN c x.v = 1 then x.hi else x.lo by unfold nxt; rw [hgx])
      rw [hgx] at n3 n4
      have hv16 : x.v ≤ 16 := by omega
      clear hx hgx
      go_upto_region 4 with fail
      refine code_gen (R := fun wb => wb.heap[wr.heap.size]? = some (.cells #[.int .i64 x.v, .int .i64 x.lo, .int .i64 x.hi] 67 (0, 0)) ∧ Below wr.heap.size wr wb) ⟨by first | exact (MapKept.heap_alloc _ _).1 | exact heap_alloc_new _ _, by go_grown⟩ ?_
      rintro w1 ⟨k1, hb1⟩
      have HX1 := Go.Lib.hid (HX.out.below hb1)
      have y0 := cell_of_block (i := 0) k1 (v := .int .i64 x.v) rfl
      have y1 := cell_of_block (i := 1) k1 (v := .int .i64 x.lo) rfl
      have y2 := cell_of_block (i := 2) k1 (v := .int .i64 x.hi) rfl
      clear c0 c1 c2 k1 hb1 x0 x1 x2
      by_cases hbt : bitN c x.v = 1
      · have HNV := Go.Lib.hid (show nxt ns c ((q : Int) + 2) = x.hi by rw [HNX.out, if_pos hbt])
        rw [HNV.out] at n1 n2
        have HB := Go.Lib.hid (c_l1Bit c x.v hc n3 hv16 w1)
        have HBT := Go.Lib.hid (show c / 2 ^ x.v.toNat % 2 = 1 from hbt)
        obtain ⟨bb, hbb⟩ : ∃ bb, c / 2 ^ x.v.toNat % 2 = bb := ⟨_, rfl⟩
        rw [hbb] at HB HBT
        have hb1' : bb = 1 := by have := HBT.out; simpa using this
        clear hbb hbt
        subst hb1'
        go_wp2_with fail
        refine HB.out.mono ?_
        rintro e w' ⟨rfl, rfl⟩
        go_wp2_with fail
        go_roundw
        case rel => exact ⟨x.hi, rfl, n1, by omega, fun r h => HEN.out r (.step _ r (by omega) (by rw [HNV.out]; exact h)), HX1.out⟩
        case measure => simp [intOf] <;> omega
      · have HNV := Go.Lib.hid (show nxt ns c ((q : Int) + 2) = x.lo by rw [HNX.out, if_neg hbt])
        rw [HNV.out] at n1 n2
        have HB := Go.Lib.hid (c_l1Bit c x.v hc n3 hv16 w1)
        have HBT := Go.Lib.hid (show ¬ c / 2 ^ x.v.toNat % 2 = 1 from hbt)
        obtain ⟨bb, hbb⟩ : ∃ bb, c / 2 ^ x.v.toNat % 2 = bb := ⟨_, rfl⟩
        rw [hbb] at HB HBT
        have hb1' : (bb == 1) = false := by have := HBT.out; simpa using this
        clear hbb hbt
        
        go_wp2_with fail
        refine HB.out.mono ?_
        rintro e w' ⟨rfl, rfl⟩
        go_wp2_with fail
        go_roundw
        case rel => exact ⟨x.lo, rfl, n1, by omega, fun r h => HEN.out r (.step _ r (by omega) (by rw [HNV.out]; exact h)), HX1.out⟩
        case measure => simp [intOf] <;> omega

set_option maxHeartbeats 8000000 in
theorem c_bddHas {B : Nat} {a : Option Addr} {len cap : Nat} {ns : List BN} (vars root c : Int) (w : World) (hBw : B ≤ w.heap.size) (h : BnsAt B w a len cap ns) (hok : OkB vars ns root) (hc : 0 ≤ c) :
    Calls Tryd.prog 51 #[.agg #[.int .i64 vars, .slice a len cap, .int .i64 root], .int .i64 c] w fun e w' => BoolIs (HasP ns root c) e ∧ Below w.heap.size w w' := by
  have HN := Go.Lib.hid h
  have hnl : ns.length = len := h.1
  have HF := Go.Lib.hid hok.fine
  have HNL := Go.Lib.hid hnl
  have hv1 := hok.hv.2
  have hr0 := hok.hr.1
  have hr1 : root ≤ (len : Int) + 1 := by have := hok.hr.2; omega
  have hl6 : len ≤ 600 := by have := hok.len; omega
  clear h hok hnl
  go_enter Tryd.func51, Tryd.ntmps51
  go_upto_region 1 with fail
  refine code_gen (R := fun wb => BBox vars a len cap root w wb) (BBox.new _ _ _ _ _ _) ?_
  intro w0 hbox
  have HX0 := Go.Lib.hid hbox
  obtain ⟨x0, x1, x2⟩ := hbox.cells
  clear hbox
  go_wp2_with fail
  go_loopw [5] (fun p wr => ∃ z : Int, p = .int .i64 z ∧ 0 ≤ z ∧ z ≤ (len : Int) + 1 ∧ (∀ r, EndsAt ns c z r → EndsAt ns c root r) ∧ BBox vars a len cap root w wr) (fun p _ => (intOf p).toNat)
  case atStart => exact ⟨root, rfl, hr0, hr1, fun r h => h, HX0.out⟩
  case round =>
    obtain ⟨z, rfl, hz0, hz1, hen, hbox⟩ := hrel
    have HEN := Go.Lib.hid hen
    have HX := Go.Lib.hid hbox
    clear hen hbox x0 x1 x2 HX0
    obtain ⟨x0, x1, x2⟩ := HX.out.cells
    by_cases hz : z < 2
    · have HZ1 := Go.Lib.hid hz
      have hzn : ¬ (2 : Int) ≤ z := by omega
      cases hz1b : (z == 1) with
      | true =>
        have HE := Go.Lib.hid (HEN.out z (.done z hz))
        have HZE := Go.Lib.hid (show z = 1 by simpa using hz1b)
        go_wp2_with fail
        go_ret
        exact ⟨BoolIs.yes (by have := HE.out; rw [HZE.out] at this; exact this), HX.out.bel⟩
      | false =>
        have HE := Go.Lib.hid (HEN.out z (.done z hz))
        have HZE := Go.Lib.hid (show ¬ z = 1 by simpa using hz1b)
        go_wp2_with fail
        go_ret
        exact ⟨BoolIs.no (fun h => HZE.out (HE.out.inj h)), HX.out.bel⟩
    · obtain ⟨q, hq⟩ : ∃ q : Nat, z = (q : Int) + 2 := ⟨(z - 2).toNat, by omega⟩
      subst hq
      have e3 : (q : Int) + 2 - 2 = q := by omega
      have hql : q < len := by omega
      have hqi : (q : Int) < len := by omega
      obtain ⟨x, b, off, hx, -, rfl, hbB, c0, c1, c2⟩ := bn_at (HN.out.below (HX.out.bel.mono hBw)) hql
      obtain ⟨n1, n2, n3, n4⟩ := nxt_ok (c := c) (p := (q : Int) + 2) HF.out (by omega) (by have := HNL.out; omega)
      have hgx : ns.getD ((q : Int) + 2 - 2).toNat default = x := by rw [hx]; congr 1; omega
      have HNX := Go.Lib.hid (show nxt ns c ((q : Int) + 2) = if bitN c x.v = 1 then x.hi else x.lo by unfold nxt; rw [hgx])
      rw [hgx] at n3 n4
      have hv16 : x.v ≤ 16 := by omega
      clear hx hgx
      go_upto_region 4 with fail
      refine code_gen (R := fun wb => wb.heap[wr.heap.size]? = some (.cells #[.int .i64 x.v, .int .i64 x.lo, .int .i64 x.hi] 67 (0, 0)) ∧ Below wr.heap.size wr wb) ⟨by first | exact (MapKept.heap_alloc _ _).1 | exact heap_alloc_new _ _, by go_grown⟩ ?_
      rintro w1 ⟨k1, hb1⟩
      have HX1 := Go.Lib.hid (HX.out.below hb1)
      have y0 := cell_of_block (i := 0) k1 (v := .int .i64 x.v) rfl
      have y1 := cell_of_block (i := 1) k1 (v := .int .i64 x.lo) rfl
      have y2 := cell_of_block (i := 2) k1 (v := .int .i64 x.hi) rfl
      clear c0 c1 c2 k1 hb1 x0 x1 x2
      by_cases hbt : bitN c x.v = 1
      · have HNV := Go.Lib.hid (show nxt ns c ((q : Int) + 2) = x.hi by rw [HNX.out, if_pos hbt])
        rw [HNV.out] at n1 n2
        have hbd : c / 2 ^ x.v.toNat % 2 = 1 ∨ c / 2 ^ x.v.toNat % 2 = 0 := by omega
        have HBT := Go.Lib.hid (show c / 2 ^ x.v.toNat % 2 = 1 from hbt)
        have hi1 : IntKind.i64.wrap 1 = 1 := rfl
        have hone := i64_one (c / 2 ^ x.v.toNat)
        have hfin : c / 2 ^ x.v.toNat % 2 = 1 := by have := HBT.out; omega
        rw [hfin] at hone
        clear hbt hbd hfin
        go_wp2_with fail
        go_roundw
        case rel => exact ⟨x.hi, rfl, n1, by omega, fun r h => HEN.out r (.step _ r (by omega) (by rw [HNV.out]; exact h)), HX1.out⟩
        case measure => simp [intOf] <;> omega
      · have HNV := Go.Lib.hid (show nxt ns c ((q : Int) + 2) = x.lo by rw [HNX.out, if_neg hbt])
        rw [HNV.out] at n1 n2
        have hbd : c / 2 ^ x.v.toNat % 2 = 1 ∨ c / 2 ^ x.v.toNat % 2 = 0 := by omega
        have HBT := Go.Lib.hid (show ¬ c / 2 ^ x.v.toNat % 2 = 1 from hbt)
        have hi1 : IntKind.i64.wrap 1 = 1 := rfl
        have hone := i64_one (c / 2 ^ x.v.toNat)
        have hfin : c / 2 ^ x.v.toNat % 2 = 0 := by have := HBT.out; omega
        rw [hfin] at hone
        clear hbt hbd hfin
        go_wp2_with fail
        go_roundw
        case rel => exact ⟨x.lo, rfl, n1, by omega, fun r h => HEN.out r (.step _ r (by omega) (by rw [HNV.out]; exact h)), HX1.out⟩
        case measure => simp [intOf] <;> omega
end Go.Proofs.YthdofdglbdfkkaaDoor
