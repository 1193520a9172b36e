/-
  The promises' own helpers: a byte of a code, whether two diagrams are alike, the first of an answer.
-/
import Derived.Test.YthdofdglbdfkkaaDoorRows
import Derived.Test.YthdofdglbdfkkaaDoorPaA
import Derived.Test.YthdofdglbdfkkaaDoorG0
import Derived.Test.YthdofdglbdfkkaaDoorRd
import Derived.Test.YthdofdglbdfkkaaDoorBdT
import Derived.Test.YthdofdglbdfkkaaDoorBdN
import Derived.Test.YthdofdglbdfkkaaDoorBdY
import Derived.Test.YthdofdglbdfkkaaDoorFoK
import Derived.Test.YthdofdglbdfkkaaDoorFoN
import Derived.Test.YthdofdglbdfkkaaDoorFoO
import Derived.WalkKit
import Derived.ProofKit
import Derived.OpenShut
import Derived.WalkSpells
import Derived.WalkLawsBesides
import Derived.Outline
import Derived.BigQuiet
import Derived.Handy
import Derived.LoopTactic
import Derived.Deep.Light
import Derived.Deep.RegionWith
import Derived.Deep.RegionHeld3
import Derived.Deep.DeepCutAuto
import Derived.Lib.Hide
import Derived.Maps.OwnRows
import Derived.Deep.Onto
import Derived.OneCell
import Derived.StillTailTactics
import Derived.Deep.AppendLies
import Derived.Deep.RegionLaw
namespace Go.Proofs.YthdofdglbdfkkaaDoor
open Go.ChangeShapes Go.WideShapes Go.ChangeAt Go.RowKit Go.Maps Go.ChangeMaps
set_option linter.unusedVariables false
set_option maxRecDepth 100000

/-- A number of a byte's size. -/
theorem c_ldByte {B : Nat} {a : Option Addr} {len cap : Nat} (i : Int) (w : World) (h : BytesAt B w a len cap) (h0 : 0 ≤ i) (h1 : i ≤ 100) :
    Calls Tryd.prog 11 #[.slice a len cap, .int .i64 i] w fun e w' => ∃ v, e = .returned (.int .i64 v) ∧ 0 ≤ v ∧ v ≤ 255 ∧ Below w.heap.size w w' := by
  obtain ⟨n, rfl⟩ : ∃ n : Nat, i = n := ⟨i.toNat, by omega⟩
  obtain ⟨q1, q2, q3, q4⟩ := h
  have hm : (cap : Int) ≤ 9223372036854775807 := by unfold maxLen at q2; omega
  by_cases hn : n < len
  · have hni : (n : Int) < len := by omega
    rcases q4 with q4 | ⟨b, off, zs, rfl, hlt, hc⟩
    · omega
    · obtain ⟨c0, c1, c2⟩ := hc n hn
      clear hc q3
      go_enter Tryd.func11, Tryd.ntmps11
      go_wp2
      go_ret
      exact ⟨_, rfl, by omega, by omega, Below.refl _ _⟩
  · have hni : ¬ (n : Int) < len := by omega
    clear q3 q4
    have hw : wrap64 ((n : Int) * 37) = (n : Int) * 37 := IntWalk.wrap64_in _ (by omega)
    have ht : ((n : Int) * 37).tmod 251 = (n : Int) * 37 % 251 := Int.tmod_eq_emod_of_nonneg (by omega)
    go_enter Tryd.func11, Tryd.ntmps11
    go_wp2
    go_ret
    exact ⟨_, rfl, by omega, by omega, Below.refl _ _⟩

/-- Two diagrams are alike. -/
def SameB (V1 : Int) (ns1 : List BN) (r1 V2 : Int) (ns2 : List BN) (r2 : Int) : Prop := V1 = V2 ∧ ns1 = ns2 ∧ r1 = r2

set_option maxHeartbeats 8000000 in
theorem c_ldBdd {B : Nat} {a1 : Option Addr} {len1 cap1 : Nat} {ns1 : List BN} (V1 r1 : Int) {a2 : Option Addr} {len2 cap2 : Nat} {ns2 : List BN} (V2 r2 : Int) (w : World) (hBw : B ≤ w.heap.size) (h1 : BnsAt B w a1 len1 cap1 ns1) (h2 : BnsAt B w a2 len2 cap2 ns2) :
    Calls Tryd.prog 10 #[.agg #[.int .i64 V1, .slice a1 len1 cap1, .int .i64 r1], .agg #[.int .i64 V2, .slice a2 len2 cap2, .int .i64 r2]] w fun e w' => BoolIs (SameB V1 ns1 r1 V2 ns2 r2) e ∧ Below w.heap.size w w' := by
  have hl1 : ns1.length = len1 := h1.1
  have hl2 : ns2.length = len2 := h2.1
  have hm1 : (len1 : Int) ≤ 9223372036854775807 := by have h3 := h1.2.1; have h4 := h1.2.2.1; unfold maxLen at h4; omega
  have hm2 : (len2 : Int) ≤ 9223372036854775807 := by have h3 := h2.2.1; have h4 := h2.2.2.1; unfold maxLen at h4; omega
  have HN1 := Go.Lib.hid h1
  have HN2 := Go.Lib.hid h2
  have HL1 := Go.Lib.hid hl1
  have HL2 := Go.Lib.hid hl2
  clear h1 h2 hl1 hl2
  go_enter Tryd.func10, Tryd.ntmps10
  go_upto_region 1 with fail
  refine code_gen (R := fun wb => wb.heap[w.heap.size]? = some (.cells #[.int .i64 V1, .slice a1 len1 cap1, .int .i64 r1] 25 (0, 0)) ∧ wb.heap[w.heap.size + 1]? = some (.cells #[.int .i64 V2, .slice a2 len2 cap2, .int .i64 r2] 25 (0, 0)) ∧ Below w.heap.size w wb) ⟨(al2 _ _ _).1, (al2 _ _ _).2, by go_grown⟩ ?_
  rintro w1 ⟨k1, k2, hq⟩
  have HK1 := Go.Lib.hid k1
  have HK2 := Go.Lib.hid k2
  have HB1 := Go.Lib.hid hq
  replace HN1 := Go.Lib.hid (HN1.out.below (hq.mono hBw))
  replace HN2 := Go.Lib.hid (HN2.out.below (hq.mono hBw))
  have hBw1 : B ≤ w1.heap.size := Nat.le_trans hBw hq.size
  clear k1 k2 hq
  have c0 := cell_of_block (i := 0) HK1.out (v := .int .i64 V1) rfl
  have c1 := cell_of_block (i := 1) HK1.out (v := .slice a1 len1 cap1) rfl
  have c2 := cell_of_block (i := 2) HK1.out (v := .int .i64 r1) rfl
  have d0 := cell_of_block (i := 0) HK2.out (v := .int .i64 V2) rfl
  have d1 := cell_of_block (i := 1) HK2.out (v := .slice a2 len2 cap2) rfl
  have d2 := cell_of_block (i := 2) HK2.out (v := .int .i64 r2) rfl
  cases e1 : (V1 == V2) with
  | false =>
    have hne : ¬ V1 = V2 := by simpa using e1
    have HNE := Go.Lib.hid hne
    go_wp2_with fail
    go_ret
    exact ⟨BoolIs.no (fun h => HNE.out h.1), HB1.out⟩
  | true =>
  have hV : V1 = V2 := by simpa using e1
  cases e2 : (r1 == r2) with
  | false =>
    have hne : ¬ r1 = r2 := by simpa using e2
    have HNE := Go.Lib.hid hne
    go_wp2_with fail
    go_ret
    exact ⟨BoolIs.no (fun h => HNE.out h.2.2), HB1.out⟩
  | true =>
  have hr : r1 = r2 := by simpa using e2
  cases e3 : ((len1 : Int) == (len2 : Int)) with
  | false =>
    have hne : ¬ (len1 : Int) = len2 := by simpa using e3
    have HNE := Go.Lib.hid hne
    go_wp2_with fail
    go_ret
    exact ⟨BoolIs.no (fun h => HNE.out (by have := congrArg List.length h.2.1; have h3 := HL1.out; have h4 := HL2.out; omega)), HB1.out⟩
  | true =>
  have hl : len1 = len2 := by have : (len1 : Int) = len2 := by simpa using e3
                              omega
  subst hV hr hl
  go_wp2_with fail
  go_loopw [5] (fun q wr => ∃ k : Nat, k ≤ len1 ∧ q = .int .i64 k ∧ (∀ j : Nat, j < k → ns1.getD j default = ns2.getD j default) ∧ Below w1.heap.size w1 wr) (fun q _ => len1 - (intOf q).toNat)
  case atStart => exact ⟨0, by omega, rfl, fun j h => by omega, Below.refl _ _⟩
  case round =>
    obtain ⟨k, hk, rfl, hall, hbel⟩ := hrel
    have HALL := Go.Lib.hid hall
    have HBR := Go.Lib.hid hbel
    have KR1 := Go.Lib.hid (blk_keep HK1.out hbel)
    have KR2 := Go.Lib.hid (blk_keep HK2.out hbel)
    have NR1 := Go.Lib.hid (HN1.out.below (hbel.mono hBw1))
    have NR2 := Go.Lib.hid (HN2.out.below (hbel.mono hBw1))
    have HBW := Go.Lib.hid (HB1.out.trans (hbel.mono HB1.out.size))
    clear hall hbel c0 c1 c2 d0 d1 d2
    have c1 := cell_of_block (i := 1) KR1.out (v := .slice a1 len1 cap1) rfl
    have d1 := cell_of_block (i := 1) KR2.out (v := .slice a2 len1 cap2) rfl
    by_cases hkl : k < len1
    · have hki : (k : Int) < len1 := by omega
      obtain ⟨x, b, off, hx, -, rfl, -, x0, x1, x2⟩ := bn_at NR1.out hkl
      obtain ⟨y, b', off', hy, -, rfl, -, y0, y1, y2⟩ := bn_at NR2.out hkl
      have HXY := Go.Lib.hid (And.intro hx hy)
      clear hx hy
      cases f1 : (x.v == y.v)
      rotate_left
      cases f2 : (x.lo == y.lo)
      rotate_left
      cases f3 : (x.hi == y.hi)
      rotate_left
      · have HT := Go.Lib.hid (show x = y from bn_ext (by simpa using f1) (by simpa using f2) (by simpa using f3))
        go_upto_region 6 with fail
        go_quiet (fail)
        go_wp2_with fail
        go_roundw
        case rel => exact ⟨k + 1, by omega, by go_num, fun j hj => by
          rcases Nat.lt_or_ge j k with h | h
          · exact HALL.out j h
          · obtain rfl : j = k := by omega
            rw [← HXY.out.1, ← HXY.out.2]; exact HT.out, by first | exact HBR.out | exact below_drewN HBR.out _⟩
        case measure => simp [intOf]; omega
      all_goals
        have HT := Go.Lib.hid (show ¬ x = y from fun h => by subst h; simp_all)
        go_upto_region 6 with fail
        go_quiet (fail)
        go_wp2_with fail
        go_ret
        exact ⟨BoolIs.no (fun h => HT.out (by rw [HXY.out.1, HXY.out.2, h.2.1])), by first | exact HBW.out | exact below_drewN HBW.out _⟩
    · have hki : ¬ (k : Int) < len1 := by omega
      obtain rfl : k = len1 := by omega
      go_wp2_with fail
      go_ret
      refine ⟨BoolIs.yes ⟨rfl, ?_, rfl⟩, HBW.out⟩
      have h3 := HL1.out
      have h4 := HL2.out
      refine List.ext_getElem (by omega) (fun j hj1 hj2 => ?_)
      have := HALL.out j (by omega)
      simpa [List.getD, hj1, hj2] using this
/-- The first of an answer. -/
theorem c_ldOf (V R : Int) (xa : Option Addr) (xl xc : Nat) (b : Bool) (w : World) :
    Calls Tryd.prog 32 #[.agg #[.int .i64 V, .slice xa xl xc, .int .i64 R], .bool b] w fun e w' => e = .returned (.agg #[.int .i64 V, .slice xa xl xc, .int .i64 R]) ∧ Below w.heap.size w w' := by
  go_enter Tryd.func32, Tryd.ntmps32
  go_upto_region 1 with fail
  refine code_gen (R := fun wb => wb.heap[w.heap.size]? = some (.cells #[.int .i64 V, .slice xa xl xc, .int .i64 R] 25 (0, 0)) ∧ wb.heap[w.heap.size + 1]? = some (.cells #[.int .i64 0, .slice none 0 0, .int .i64 0] 25 (0, 0)) ∧ Below w.heap.size w wb) ⟨(al2 _ _ _).1, (al2 _ _ _).2, by go_grown⟩ ?_
  rintro w1 ⟨k1, k2, hq⟩
  have HK2 := Go.Lib.hid k2
  have HB1 := Go.Lib.hid hq
  have c0 := cell_of_block (i := 0) k1 (v := .int .i64 V) rfl
  have c1 := cell_of_block (i := 1) k1 (v := .slice xa xl xc) rfl
  have c2 := cell_of_block (i := 2) k1 (v := .int .i64 R) rfl
  have z0 := cell_of_block (i := 0) k2 (v := .int .i64 0) rfl
  have f0 := free_of_block (i := 0) k2
  have z1 := cell_of_block (i := 1) k2 (v := .slice none 0 0) rfl
  have f1 := free_of_block (i := 1) k2
  have z2 := cell_of_block (i := 2) k2 (v := .int .i64 0) rfl
  have f2 := free_of_block (i := 2) k2
  clear k1 k2 hq
  go_wp2_with fail
  exact bodyPost_ret (v := .agg #[.int .i64 V, .slice xa xl xc, .int .i64 R]) (results_cell_row rfl _ _ (w.heap.size + 1) 25 _ (0, 0) _ rfl (heap_setCell_same _ _ 2 _ _ _ (heap_setCell_same _ _ 1 _ _ _ (heap_setCell_same _ _ 0 _ _ _ HK2.out))) Tryd.underlying25 rfl (by kernel_rfl)) rfl ⟨rfl, ((HB1.out.setCell (p := ⟨w.heap.size + 1, 0, none⟩) (by simp) _).setCell (p := ⟨w.heap.size + 1, 1, none⟩) (by simp) _).setCell (p := ⟨w.heap.size + 1, 2, none⟩) (by simp) _⟩
end Go.Proofs.YthdofdglbdfkkaaDoor
