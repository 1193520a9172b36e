/-
  The model's functions that give a diagram of a table.
-/
import Derived.Test.YthdofdglbdfkkaaDoorRows
import Derived.Test.YthdofdglbdfkkaaDoorG0
import Derived.Test.YthdofdglbdfkkaaDoorPaA
import Derived.Test.YthdofdglbdfkkaaDoorBdT
import Derived.Test.YthdofdglbdfkkaaDoorBdE
import Derived.Test.YthdofdglbdfkkaaDoorFoN
import Derived.Test.YthdofdglbdfkkaaDoorFoZ
import Derived.WalkKit
import Derived.ProofKit
import Derived.OpenShut
import Derived.WalkSpells
import Derived.WalkLawsBesides
import Derived.Outline
import Derived.BigQuiet
import Derived.Handy
import Derived.LoopTactic
import Derived.Deep.Light
import Derived.Deep.RegionWith
import Derived.Deep.RegionHeld3
import Derived.Deep.DeepCutAuto
import Derived.Lib.Hide
import Derived.Maps.OwnRows
import Derived.Deep.Onto
import Derived.OneCell
import Derived.StillTailTactics
import Derived.Deep.AppendLies
import Derived.Deep.RegionLaw
namespace Go.Proofs.YthdofdglbdfkkaaDoor
open Go.ChangeShapes Go.WideShapes Go.ChangeAt Go.RowKit Go.Maps Go.ChangeMaps
set_option linter.unusedVariables false
set_option maxRecDepth 100000

theorem c_l7HasF {B : Nat} {a : Option Addr} {len cap : Nat} {ns : List BN} (vars root c : Int) (w : World) (hBw : B ≤ w.heap.size) (h : BnsAt B w a len cap ns) (hok : OkB vars ns root) (hc : 0 ≤ c) :
    Calls Tryd.prog 43 #[.agg #[.int .i64 vars, .slice a len cap, .int .i64 root], .int .i64 c] w fun e w' => e = .returned (.bool (evF ns root c)) ∧ Below w.heap.size w w' := by
  refine (c_l7Has vars root c w hBw h hok hc).mono ?_
  rintro e w' ⟨⟨r, rfl, hr⟩, hq⟩
  refine ⟨?_, hq⟩
  have : r = evF ns root c := by
    have h1 := hr.trans (evF_has (F := ns) (p := root) (c := c)).symm
    cases r <;> cases he : evF ns root c <;> simp_all
  rw [this]
theorem boolInfo : (Tryd.prog.info? 4).map (fun i => (i.zero, i.size, i.bytes)) = some (some (.bool false), 1, 1) := by kernel_rfl
/-- The table of a set. -/
def TBf (tl : Nat) (f : Int → Bool) : List Bool := (List.range tl).map (fun i : Nat => f (i : Int))
theorem TBf_len (tl : Nat) (f : Int → Bool) : (TBf tl f).length = tl := by unfold TBf; simp
theorem TBf_get {tl : Nat} {f : Int → Bool} {j : Nat} (h : j < (TBf tl f).length) : (TBf tl f)[j] = f j := by
  have h1 : (TBf tl f)[j]? = some (f j) := by
    have hl : j < tl := by rw [TBf_len] at h; exact h
    unfold TBf
    rw [List.getElem?_map, List.getElem?_range hl]; rfl
  rw [List.getElem?_eq_getElem h] at h1
  exact Option.some.inj h1
theorem tabF_TBf {tl : Nat} {f : Int → Bool} {c : Int} (h0 : 0 ≤ c) (h1 : c < tl) : tabF (TBf tl f) c = f c := by
  unfold tabF
  have hl : c.toNat < (TBf tl f).length := by rw [TBf_len]; omega
  rw [List.getD_eq_getElem?_getD, List.getElem?_eq_getElem hl, TBf_get]
  show f (c.toNat : Int) = f c
  rw [Int.toNat_of_nonneg h0]
theorem copied_below {α : Type} {cells : α → List Value} {c : Nat} {ns : List α} {len : Nat} {w : World} {i : Value} {wr w' : World} (h : CopiedR cells c ns len w i wr) (hb : Below wr.heap.size wr w') : CopiedR cells c ns len w i w' := by
  obtain ⟨j, h1, h2, h3, h4, h5, h6⟩ := h
  exact ⟨j, h1, h2, Nat.lt_of_lt_of_le h3 hb.size, there_below h4 hb h3, fun t ht htj q hq => (hb.cell (p := ⟨w.heap.size, t * c + q, none⟩) h3).trans (h5 t ht htj q hq), h6.trans (hb.mono h6.size)⟩
theorem copied_bel {α : Type} {cells : α → List Value} {c : Nat} {ns : List α} {len : Nat} {w : World} {i : Value} {wr : World} (h : CopiedR cells c ns len w i wr) : Below w.heap.size w wr := by
  obtain ⟨j, h1, h2, h3, h4, h5, h6⟩ := h
  exact h6
theorem tab_at {α : Type} {cells : α → List Value} {ns : List α} {tl : Nat} {w : World} {i : Value} {wr : World} (h : CopiedR cells 1 ns tl w i wr) {j : Nat} (hj : j < tl) : (∃ v, wr.cell? ⟨w.heap.size, j, none⟩ = some v) ∧ wr.frozen? ⟨w.heap.size, j, none⟩ = false := by
  obtain ⟨j', h1, h2, h3, h4, h5, h6⟩ := h
  exact there1 h4 hj
theorem tab_next {tl : Nat} {f : Int → Bool} {w wr : World} {j : Nat} (h : CopiedR boolCells 1 (TBf tl f) tl w (.int .i64 (j : Int)) wr) (hj : j < tl) {b : Bool} (hb : b = f j) : CopiedR boolCells 1 (TBf tl f) tl w (.int .i64 ((j + 1 : Nat) : Int)) (wr.setCell ⟨w.heap.size, j, none⟩ (.bool b)) := by
  obtain ⟨j', h1, h2, h3, h4, h5, h6⟩ := h
  have e : j' = j := by simp at h2; omega
  subst e
  have hjn : j' < (TBf tl f).length := by rw [TBf_len]; exact hj
  have := copiedR_next (cells := boolCells) (c := 1) (fun _ => rfl) hj hjn h3 h4 h5 h6 (show b = (TBf tl f)[j'] by rw [TBf_get, hb])
  simpa [boolCells, World.setCells] using this
theorem tab_bools {tl : Nat} {f : Int → Bool} {w wr : World} {j : Nat} (h : CopiedR boolCells 1 (TBf tl f) tl w (.int .i64 (j : Int)) wr) (hj : ¬ j < tl) (hm : tl ≤ 8192) : BoolsAt wr.heap.size wr (some ⟨w.heap.size, 0, none⟩) tl tl (TBf tl f) := by
  obtain ⟨j', h1, h2, h3, h4, h5, h6⟩ := h
  have e : j' = j := by simp at h2; omega
  subst e
  exact ⟨TBf_len _ _, Nat.le_refl _, by unfold maxLen; omega, fun _ _ => trivial, fun e => by simp at e, .inr ⟨w.heap.size, 0, rfl, h3, fun i hi q hq => by rw [Nat.zero_add]; exact h5 i hi (by rw [TBf_len] at hi; omega) q hq⟩⟩
/-- A table is made. -/
theorem tab_made {w w0 : World} {tl : Nat} {ns : List Bool} (hown : w0.ownsRow w.heap.size 4 1 (.slice (some ⟨w.heap.size, 0, none⟩) tl tl) tl (madeCells (Value.bool false).cells (tl * 1)).toList) (hgrow : w.grownBy w0 none) : CopiedR boolCells 1 ns tl w (.int .i64 ((0 : Nat) : Int)) w0 := by
  have hlt0 : w.heap.size < w0.heap.size := by
    rcases hown.2 with ⟨h', _⟩ | ⟨g', cap', cur, h', _, hg, _⟩
    · simp at h'
    · simp only [Value.slice.injEq, Option.some.injEq, Addr.mk.injEq, and_true, true_and] at h'
      obtain ⟨rfl, rfl⟩ := h'
      rcases Nat.lt_or_ge w.heap.size w0.heap.size with h | h
      · exact h
      · rw [Array.getElem?_eq_none h] at hg; cases hg
  exact ⟨0, Nat.zero_le _, rfl, hlt0, fun j hj => ⟨by
      rw [Nat.zero_add, hown.cellAt j (by omega)]
      have hl := hown.1
      rw [List.getElem?_eq_getElem (by omega)]; rfl, by rw [Nat.zero_add]; exact hown.frozenAt j⟩, fun t _ h => by omega, (Below.refl w.heap.size w).grown hgrow (Nat.le_refl _) (by simp)⟩
theorem cell_set {w : World} {g o g' o' : Nat} {u v : Value} (h : w.cell? ⟨g, o, none⟩ = some u) (hne : g ≠ g') : (w.setCell ⟨g', o', none⟩ v).cell? ⟨g, o, none⟩ = some u :=
  (World.cell?_setCell_other w _ _ _ (fun e => hne (by first | exact (Addr.mk.inj e).1 | exact ((Addr.mk.inj e).1).symm))).trans h

set_option maxHeartbeats 8000000 in
theorem c_BddIfS {B : Nat} {a1 : Option Addr} {len1 cap1 : Nat} {ns1 : List BN} (V1 r1 : Int) {a2 : Option Addr} {len2 cap2 : Nat} {ns2 : List BN} (V2 r2 : Int) {a3 : Option Addr} {len3 cap3 : Nat} {ns3 : List BN} (V3 r3 : Int) (w : World) (hBw : B ≤ w.heap.size) (hn1 : BnsAt B w a1 len1 cap1 ns1) (hn2 : BnsAt B w a2 len2 cap2 ns2) (hn3 : BnsAt B w a3 len3 cap3 ns3) :
    Calls Tryd.prog 9 #[.agg #[.int .i64 V1, .slice a1 len1 cap1, .int .i64 r1], .agg #[.int .i64 V2, .slice a2 len2 cap2, .int .i64 r2], .agg #[.int .i64 V3, .slice a3 len3 cap3, .int .i64 r3]] w (BddQ (CondR (TriP V1 ns1 r1 V2 ns2 r2 V3 ns3 r3) V1 (fun c => if evF ns1 r1 c then evF ns2 r2 c else evF ns3 r3 c)) w) := by
  have HN1 := Go.Lib.hid hn1
  have HN2 := Go.Lib.hid hn2
  have HN3 := Go.Lib.hid hn3
  clear hn1 hn2 hn3
  go_enter Tryd.func9, Tryd.ntmps9
  go_upto_region 1 with fail
  refine code_gen (R := fun wb => wb.heap[w.heap.size]? = some (.cells #[.int .i64 V1, .slice a1 len1 cap1, .int .i64 r1] 25 (0, 0)) ∧ wb.heap[w.heap.size + 1]? = some (.cells #[.int .i64 V2, .slice a2 len2 cap2, .int .i64 r2] 25 (0, 0)) ∧ wb.heap[w.heap.size + 2]? = some (.cells #[.int .i64 V3, .slice a3 len3 cap3, .int .i64 r3] 25 (0, 0)) ∧ wb.heap[w.heap.size + 3]? = some (.cells #[.int .i64 0, .slice none 0 0, .int .i64 0] 25 (0, 0)) ∧ Below w.heap.size w wb) ⟨(al4 _ _ _ _ _).1, (al4 _ _ _ _ _).2.1, (al4 _ _ _ _ _).2.2.1, (al4 _ _ _ _ _).2.2.2, by go_grown⟩ ?_
  rintro w0 ⟨k0, k1, k2, k3, hb0⟩
  have K0_0 := Go.Lib.hid k0
  have K1_0 := Go.Lib.hid k1
  have K2_0 := Go.Lib.hid k2
  have K3_0 := Go.Lib.hid k3
  have B_0 := Go.Lib.hid hb0
  have N1_0 := Go.Lib.hid (HN1.out.below (hb0.mono hBw))
  have N2_0 := Go.Lib.hid (HN2.out.below (hb0.mono hBw))
  have N3_0 := Go.Lib.hid (HN3.out.below (hb0.mono hBw))
  have hB_0 : B ≤ w0.heap.size := Nat.le_trans hBw hb0.size
  clear k0 k1 k2 k3 hb0
  have x00 := cell_of_block (i := 0) K0_0.out (v := .int .i64 V1) rfl
  have x01 := cell_of_block (i := 1) K0_0.out (v := .slice a1 len1 cap1) rfl
  have x02 := cell_of_block (i := 2) K0_0.out (v := .int .i64 r1) rfl
  go_wp2_with fail
  refine (c_BddOkS (B := B) V1 r1 w0 hB_0 N1_0.out).mono ?_
  rintro e w1 ⟨hb, hq⟩
  have K0_1 := Go.Lib.hid (blk_keep K0_0.out hq)
  have K1_1 := Go.Lib.hid (blk_keep K1_0.out hq)
  have K2_1 := Go.Lib.hid (blk_keep K2_0.out hq)
  have K3_1 := Go.Lib.hid (blk_keep K3_0.out hq)
  have B_1 := Go.Lib.hid (B_0.out.trans (hq.mono B_0.out.size))
  have N1_1 := Go.Lib.hid (N1_0.out.below (hq.mono hB_0))
  have N2_1 := Go.Lib.hid (N2_0.out.below (hq.mono hB_0))
  have N3_1 := Go.Lib.hid (N3_0.out.below (hq.mono hB_0))
  have hB_1 : B ≤ w1.heap.size := Nat.le_trans hB_0 hq.size
  clear hq x00 x01 x02
  by_cases ho : OkB V1 ns1 r1
  rotate_left
  · obtain rfl := boolIs_f ho hb
    have HO := Go.Lib.hid ho
    clear ho hb
    have z0 := cell_of_block (i := 0) K3_1.out (v := .int .i64 0) rfl
    have f0 := free_of_block (i := 0) K3_1.out
    have z1 := cell_of_block (i := 1) K3_1.out (v := .slice none 0 0) rfl
    have f1 := free_of_block (i := 1) K3_1.out
    have z2 := cell_of_block (i := 2) K3_1.out (v := .int .i64 0) rfl
    have f2 := free_of_block (i := 2) K3_1.out
    go_wp2_with fail
    refine bodyPost_ret (v := .tuple #[.agg #[.int .i64 0, .slice none 0 0, .int .i64 0], .bool false]) (results_cell_q (p := 6) (q := 7) rfl _ _ (w.heap.size + 3) 25 _ (0, 0) _ rfl rfl (heap_setCell_same _ _ 2 _ _ _ (heap_setCell_same _ _ 1 _ _ _ (heap_setCell_same _ _ 0 _ _ _ K3_1.out))) Tryd.underlying25 rfl (by kernel_rfl)) rfl ⟨_, _, _, _, [], rfl, OwnN.nil _ _, .inr ⟨(fun h => HO.out h.1.2.1), rfl, rfl, rfl, rfl⟩, ?_⟩
    exact (((B_1.out).setCell (p := ⟨w.heap.size + 3, 0, none⟩) (Nat.le_add_right _ _) _).setCell (p := ⟨w.heap.size + 3, 1, none⟩) (Nat.le_add_right _ _) _).setCell (p := ⟨w.heap.size + 3, 2, none⟩) (Nat.le_add_right _ _) _
  obtain rfl := boolIs_t ho hb
  have HO1 := Go.Lib.hid ho
  clear ho hb
  have x10 := cell_of_block (i := 0) K1_1.out (v := .int .i64 V2) rfl
  have x11 := cell_of_block (i := 1) K1_1.out (v := .slice a2 len2 cap2) rfl
  have x12 := cell_of_block (i := 2) K1_1.out (v := .int .i64 r2) rfl
  go_wp2_with fail
  refine (c_BddOkS (B := B) V2 r2 w1 hB_1 N2_1.out).mono ?_
  rintro e w2 ⟨hb, hq⟩
  have K0_2 := Go.Lib.hid (blk_keep K0_1.out hq)
  have K1_2 := Go.Lib.hid (blk_keep K1_1.out hq)
  have K2_2 := Go.Lib.hid (blk_keep K2_1.out hq)
  have K3_2 := Go.Lib.hid (blk_keep K3_1.out hq)
  have B_2 := Go.Lib.hid (B_1.out.trans (hq.mono B_1.out.size))
  have N1_2 := Go.Lib.hid (N1_1.out.below (hq.mono hB_1))
  have N2_2 := Go.Lib.hid (N2_1.out.below (hq.mono hB_1))
  have N3_2 := Go.Lib.hid (N3_1.out.below (hq.mono hB_1))
  have hB_2 : B ≤ w2.heap.size := Nat.le_trans hB_1 hq.size
  clear hq x10 x11 x12
  by_cases ho : OkB V2 ns2 r2
  rotate_left
  · obtain rfl := boolIs_f ho hb
    have HO := Go.Lib.hid ho
    clear ho hb
    have z0 := cell_of_block (i := 0) K3_2.out (v := .int .i64 0) rfl
    have f0 := free_of_block (i := 0) K3_2.out
    have z1 := cell_of_block (i := 1) K3_2.out (v := .slice none 0 0) rfl
    have f1 := free_of_block (i := 1) K3_2.out
    have z2 := cell_of_block (i := 2) K3_2.out (v := .int .i64 0) rfl
    have f2 := free_of_block (i := 2) K3_2.out
    go_wp2_with fail
    refine bodyPost_ret (v := .tuple #[.agg #[.int .i64 0, .slice none 0 0, .int .i64 0], .bool false]) (results_cell_q (p := 6) (q := 7) rfl _ _ (w.heap.size + 3) 25 _ (0, 0) _ rfl rfl (heap_setCell_same _ _ 2 _ _ _ (heap_setCell_same _ _ 1 _ _ _ (heap_setCell_same _ _ 0 _ _ _ K3_2.out))) Tryd.underlying25 rfl (by kernel_rfl)) rfl ⟨_, _, _, _, [], rfl, OwnN.nil _ _, .inr ⟨(fun h => HO.out h.1.2.2), rfl, rfl, rfl, rfl⟩, ?_⟩
    exact (((B_2.out).setCell (p := ⟨w.heap.size + 3, 0, none⟩) (Nat.le_add_right _ _) _).setCell (p := ⟨w.heap.size + 3, 1, none⟩) (Nat.le_add_right _ _) _).setCell (p := ⟨w.heap.size + 3, 2, none⟩) (Nat.le_add_right _ _) _
  obtain rfl := boolIs_t ho hb
  have HO2 := Go.Lib.hid ho
  clear ho hb
  have x20 := cell_of_block (i := 0) K2_2.out (v := .int .i64 V3) rfl
  have x21 := cell_of_block (i := 1) K2_2.out (v := .slice a3 len3 cap3) rfl
  have x22 := cell_of_block (i := 2) K2_2.out (v := .int .i64 r3) rfl
  go_wp2_with fail
  refine (c_BddOkS (B := B) V3 r3 w2 hB_2 N3_2.out).mono ?_
  rintro e w3 ⟨hb, hq⟩
  have K0_3 := Go.Lib.hid (blk_keep K0_2.out hq)
  have K1_3 := Go.Lib.hid (blk_keep K1_2.out hq)
  have K2_3 := Go.Lib.hid (blk_keep K2_2.out hq)
  have K3_3 := Go.Lib.hid (blk_keep K3_2.out hq)
  have B_3 := Go.Lib.hid (B_2.out.trans (hq.mono B_2.out.size))
  have N1_3 := Go.Lib.hid (N1_2.out.below (hq.mono hB_2))
  have N2_3 := Go.Lib.hid (N2_2.out.below (hq.mono hB_2))
  have N3_3 := Go.Lib.hid (N3_2.out.below (hq.mono hB_2))
  have hB_3 : B ≤ w3.heap.size := Nat.le_trans hB_2 hq.size
  clear hq x20 x21 x22
  by_cases ho : OkB V3 ns3 r3
  rotate_left
  · obtain rfl := boolIs_f ho hb
    have HO := Go.Lib.hid ho
    clear ho hb
    have z0 := cell_of_block (i := 0) K3_3.out (v := .int .i64 0) rfl
    have f0 := free_of_block (i := 0) K3_3.out
    have z1 := cell_of_block (i := 1) K3_3.out (v := .slice none 0 0) rfl
    have f1 := free_of_block (i := 1) K3_3.out
    have z2 := cell_of_block (i := 2) K3_3.out (v := .int .i64 0) rfl
    have f2 := free_of_block (i := 2) K3_3.out
    go_wp2_with fail
    refine bodyPost_ret (v := .tuple #[.agg #[.int .i64 0, .slice none 0 0, .int .i64 0], .bool false]) (results_cell_q (p := 6) (q := 7) rfl _ _ (w.heap.size + 3) 25 _ (0, 0) _ rfl rfl (heap_setCell_same _ _ 2 _ _ _ (heap_setCell_same _ _ 1 _ _ _ (heap_setCell_same _ _ 0 _ _ _ K3_3.out))) Tryd.underlying25 rfl (by kernel_rfl)) rfl ⟨_, _, _, _, [], rfl, OwnN.nil _ _, .inr ⟨(fun h => HO.out h.2.2.2), rfl, rfl, rfl, rfl⟩, ?_⟩
    exact (((B_3.out).setCell (p := ⟨w.heap.size + 3, 0, none⟩) (Nat.le_add_right _ _) _).setCell (p := ⟨w.heap.size + 3, 1, none⟩) (Nat.le_add_right _ _) _).setCell (p := ⟨w.heap.size + 3, 2, none⟩) (Nat.le_add_right _ _) _
  obtain rfl := boolIs_t ho hb
  have HO3 := Go.Lib.hid ho
  clear ho hb
  have x00 := cell_of_block (i := 0) K0_3.out (v := .int .i64 V1) rfl
  have x01 := cell_of_block (i := 1) K0_3.out (v := .slice a1 len1 cap1) rfl
  have x02 := cell_of_block (i := 2) K0_3.out (v := .int .i64 r1) rfl
  have x10 := cell_of_block (i := 0) K1_3.out (v := .int .i64 V2) rfl
  have x11 := cell_of_block (i := 1) K1_3.out (v := .slice a2 len2 cap2) rfl
  have x12 := cell_of_block (i := 2) K1_3.out (v := .int .i64 r2) rfl
  have x20 := cell_of_block (i := 0) K2_3.out (v := .int .i64 V3) rfl
  have x21 := cell_of_block (i := 1) K2_3.out (v := .slice a3 len3 cap3) rfl
  have x22 := cell_of_block (i := 2) K2_3.out (v := .int .i64 r3) rfl
  by_cases hv2 : V2 = V1
  rotate_left
  · have hvb : (V2 != V1) = true := by simp [hv2]
    have HV := Go.Lib.hid hv2
    have z0 := cell_of_block (i := 0) K3_3.out (v := .int .i64 0) rfl
    have f0 := free_of_block (i := 0) K3_3.out
    have z1 := cell_of_block (i := 1) K3_3.out (v := .slice none 0 0) rfl
    have f1 := free_of_block (i := 1) K3_3.out
    have z2 := cell_of_block (i := 2) K3_3.out (v := .int .i64 0) rfl
    have f2 := free_of_block (i := 2) K3_3.out
    go_wp2_with fail
    refine bodyPost_ret (v := .tuple #[.agg #[.int .i64 0, .slice none 0 0, .int .i64 0], .bool false]) (results_cell_q (p := 6) (q := 7) rfl _ _ (w.heap.size + 3) 25 _ (0, 0) _ rfl rfl (heap_setCell_same _ _ 2 _ _ _ (heap_setCell_same _ _ 1 _ _ _ (heap_setCell_same _ _ 0 _ _ _ K3_3.out))) Tryd.underlying25 rfl (by kernel_rfl)) rfl ⟨_, _, _, _, [], rfl, OwnN.nil _ _, .inr ⟨(fun h => HV.out h.1.1.symm), rfl, rfl, rfl, rfl⟩, ?_⟩
    exact (((B_3.out).setCell (p := ⟨w.heap.size + 3, 0, none⟩) (Nat.le_add_right _ _) _).setCell (p := ⟨w.heap.size + 3, 1, none⟩) (Nat.le_add_right _ _) _).setCell (p := ⟨w.heap.size + 3, 2, none⟩) (Nat.le_add_right _ _) _
  have hv2' : V1 = V2 := hv2.symm
  clear hv2
  subst hv2'
  by_cases hv3 : V3 = V1
  rotate_left
  · have hvb : (V1 != V1) = false := by simp
    have hvc : (V3 != V1) = true := by simp [hv3]
    have HV := Go.Lib.hid hv3
    have z0 := cell_of_block (i := 0) K3_3.out (v := .int .i64 0) rfl
    have f0 := free_of_block (i := 0) K3_3.out
    have z1 := cell_of_block (i := 1) K3_3.out (v := .slice none 0 0) rfl
    have f1 := free_of_block (i := 1) K3_3.out
    have z2 := cell_of_block (i := 2) K3_3.out (v := .int .i64 0) rfl
    have f2 := free_of_block (i := 2) K3_3.out
    go_wp2_with fail
    refine bodyPost_ret (v := .tuple #[.agg #[.int .i64 0, .slice none 0 0, .int .i64 0], .bool false]) (results_cell_q (p := 6) (q := 7) rfl _ _ (w.heap.size + 3) 25 _ (0, 0) _ rfl rfl (heap_setCell_same _ _ 2 _ _ _ (heap_setCell_same _ _ 1 _ _ _ (heap_setCell_same _ _ 0 _ _ _ K3_3.out))) Tryd.underlying25 rfl (by kernel_rfl)) rfl ⟨_, _, _, _, [], rfl, OwnN.nil _ _, .inr ⟨(fun h => HV.out h.2.1.symm), rfl, rfl, rfl, rfl⟩, ?_⟩
    exact (((B_3.out).setCell (p := ⟨w.heap.size + 3, 0, none⟩) (Nat.le_add_right _ _) _).setCell (p := ⟨w.heap.size + 3, 1, none⟩) (Nat.le_add_right _ _) _).setCell (p := ⟨w.heap.size + 3, 2, none⟩) (Nat.le_add_right _ _) _
  have hv3' : V1 = V3 := hv3.symm
  clear hv3
  subst hv3'
  have hvb : (V1 != V1) = false := by simp
  have K0_m := Go.Lib.hid K0_3.out
  have K1_m := Go.Lib.hid K1_3.out
  have K2_m := Go.Lib.hid K2_3.out
  have K3_m := Go.Lib.hid K3_3.out
  have hB_m := hB_3
  have N1_m := Go.Lib.hid N1_3.out
  have N2_m := Go.Lib.hid N2_3.out
  have N3_m := Go.Lib.hid N3_3.out
  obtain ⟨tl, htl⟩ : ∃ tl : Nat, (tl : Int) = 2 ^ (V1).toNat := ⟨2 ^ (V1).toNat, by simp⟩
  have hw2 : wrap64 (2 ^ min (IntKind.u64.wrap (V1)).toNat 64) = (tl : Int) := by
    have hv13 := HO1.out.hv
    rw [IntWalk.u64_in _ (by omega), Nat.min_eq_left (by omega), wrap_p2 (by omega)]; exact htl.symm
  have htl8 : tl ≤ 8192 := by have h1 := p2_13 HO1.out.hv.1 HO1.out.hv.2; omega
  have HTL := Go.Lib.hid htl
  obtain ⟨i0, hi0, hz0, hz1, hz2⟩ := info_parts boolInfo
  obtain ⟨w9, hrun, hown, hgrow⟩ := run_make_full (P := Tryd.prog) w3 w3.heap.size 64 4 i0 _ 1 Tryd.underlying64 hi0 hz0 hz1 .i64 .i64 tl (by rw [hz2]; omega) (by unfold maxLen; omega) (Nat.le_refl _)
  have HC9 := Go.Lib.hid (tab_made (ns := TBf tl (fun c => if evF ns1 r1 c then evF ns2 r2 c else evF ns3 r3 c)) hown hgrow)
  clear hi0 hz0 hz1 hz2 hown hgrow htl
  go_wp2_with fail
  clear hrun x00 x01 x02 x10 x11 x12 x20 x21 x22 hw2
  go_loopw [9] (fun q wr => ∃ j : Nat, j ≤ tl ∧ q = .int .i64 j ∧ CopiedR boolCells 1 (TBf tl (fun c => if evF ns1 r1 c then evF ns2 r2 c else evF ns3 r3 c)) tl w3 (.int .i64 (j : Int)) wr) (fun q _ => tl - (intOf q).toNat)
  case atStart => exact ⟨0, by omega, rfl, HC9.out⟩
  case round =>
    obtain ⟨j, hj, rfl, hcr⟩ := hrel
    have C_wr := Go.Lib.hid hcr
    have H_wr := Go.Lib.hid (copied_bel C_wr.out)
    clear hcr
    by_cases hjl : j < tl
    · have hji : (j : Int) < tl := by omega
      have hlt3 : w3.heap.size < wr.heap.size := by obtain ⟨_, _, _, h, _⟩ := C_wr.out; exact h
      obtain ⟨e1, he1⟩ : ∃ b, evF ns1 r1 (j : Int) = b := ⟨_, rfl⟩
      obtain ⟨e2, he2⟩ : ∃ b, evF ns2 r2 (j : Int) = b := ⟨_, rfl⟩
      obtain ⟨e3, he3⟩ : ∃ b, evF ns3 r3 (j : Int) = b := ⟨_, rfl⟩
      have E1 := Go.Lib.hid he1
      have E2 := Go.Lib.hid he2
      have E3 := Go.Lib.hid he3
      clear he1 he2 he3
      have y00 := keepc H_wr.out (blk_lt K0_m.out) (cell_of_block (i := 0) K0_m.out (v := .int .i64 V1) rfl)
      have y01 := keepc H_wr.out (blk_lt K0_m.out) (cell_of_block (i := 1) K0_m.out (v := .slice a1 len1 cap1) rfl)
      have y02 := keepc H_wr.out (blk_lt K0_m.out) (cell_of_block (i := 2) K0_m.out (v := .int .i64 r1) rfl)
      have HH := Go.Lib.hid (c_l7HasF (B := B) V1 r1 (j : Int) wr (Nat.le_trans hB_m H_wr.out.size) (N1_m.out.below (H_wr.out.mono hB_m)) HO1.out (by omega))
      rw [E1.out] at HH
      go_wp2_with fail
      refine HH.out.mono ?_
      rintro e wa ⟨rfl, hq⟩
      have C_wa := Go.Lib.hid (copied_below C_wr.out hq)
      have H_wa := Go.Lib.hid (copied_bel C_wa.out)
      clear hq HH
      clear y00 y01 y02
      cases e1 with
      | true =>
        have y10 := keepc H_wa.out (blk_lt K1_m.out) (cell_of_block (i := 0) K1_m.out (v := .int .i64 V1) rfl)
        have y11 := keepc H_wa.out (blk_lt K1_m.out) (cell_of_block (i := 1) K1_m.out (v := .slice a2 len2 cap2) rfl)
        have y12 := keepc H_wa.out (blk_lt K1_m.out) (cell_of_block (i := 2) K1_m.out (v := .int .i64 r2) rfl)
        have HH := Go.Lib.hid (c_l7HasF (B := B) V1 r2 (j : Int) wa (Nat.le_trans hB_m H_wa.out.size) (N2_m.out.below (H_wa.out.mono hB_m)) HO2.out (by omega))
        rw [E2.out] at HH
        go_wp2_with fail
        refine HH.out.mono ?_
        rintro e wb ⟨rfl, hq⟩
        have C_wb := Go.Lib.hid (copied_below C_wa.out hq)
        have H_wb := Go.Lib.hid (copied_bel C_wb.out)
        clear hq HH
        clear y10 y11 y12
        cases e2 with
        | true =>
          obtain ⟨⟨v0, d0⟩, f0⟩ := tab_at C_wb.out hjl
          have HQ := Go.Lib.hid (tab_next C_wb.out hjl (b := true) (by show _ = (if _ then _ else _); simp [E1.out, E2.out]))
          go_wp2_with fail
          go_roundw
          case rel => exact ⟨j + 1, by omega, by go_num, HQ.out⟩
          case measure =>
            simp [intOf]; omega
        | false =>
          have y00 := keepc H_wb.out (blk_lt K0_m.out) (cell_of_block (i := 0) K0_m.out (v := .int .i64 V1) rfl)
          have y01 := keepc H_wb.out (blk_lt K0_m.out) (cell_of_block (i := 1) K0_m.out (v := .slice a1 len1 cap1) rfl)
          have y02 := keepc H_wb.out (blk_lt K0_m.out) (cell_of_block (i := 2) K0_m.out (v := .int .i64 r1) rfl)
          have HH := Go.Lib.hid (c_l7HasF (B := B) V1 r1 (j : Int) wb (Nat.le_trans hB_m H_wb.out.size) (N1_m.out.below (H_wb.out.mono hB_m)) HO1.out (by omega))
          rw [E1.out] at HH
          go_wp2_with fail
          refine HH.out.mono ?_
          rintro e wc ⟨rfl, hq⟩
          have C_wc := Go.Lib.hid (copied_below C_wb.out hq)
          have H_wc := Go.Lib.hid (copied_bel C_wc.out)
          clear hq HH
          clear y00 y01 y02
          obtain ⟨⟨v0, d0⟩, f0⟩ := tab_at C_wc.out hjl
          have HQ := Go.Lib.hid (tab_next C_wc.out hjl (b := false) (by show _ = (if _ then _ else _); simp [E1.out, E2.out]))
          go_wp2_with fail
          go_roundw
          case rel => exact ⟨j + 1, by omega, by go_num, HQ.out⟩
          case measure =>
            simp [intOf]; omega
      | false =>
        have y00 := keepc H_wa.out (blk_lt K0_m.out) (cell_of_block (i := 0) K0_m.out (v := .int .i64 V1) rfl)
        have y01 := keepc H_wa.out (blk_lt K0_m.out) (cell_of_block (i := 1) K0_m.out (v := .slice a1 len1 cap1) rfl)
        have y02 := keepc H_wa.out (blk_lt K0_m.out) (cell_of_block (i := 2) K0_m.out (v := .int .i64 r1) rfl)
        have HH := Go.Lib.hid (c_l7HasF (B := B) V1 r1 (j : Int) wa (Nat.le_trans hB_m H_wa.out.size) (N1_m.out.below (H_wa.out.mono hB_m)) HO1.out (by omega))
        rw [E1.out] at HH
        go_wp2_with fail
        refine HH.out.mono ?_
        rintro e wb ⟨rfl, hq⟩
        have C_wb := Go.Lib.hid (copied_below C_wa.out hq)
        have H_wb := Go.Lib.hid (copied_bel C_wb.out)
        clear hq HH
        clear y00 y01 y02
        have y20 := keepc H_wb.out (blk_lt K2_m.out) (cell_of_block (i := 0) K2_m.out (v := .int .i64 V1) rfl)
        have y21 := keepc H_wb.out (blk_lt K2_m.out) (cell_of_block (i := 1) K2_m.out (v := .slice a3 len3 cap3) rfl)
        have y22 := keepc H_wb.out (blk_lt K2_m.out) (cell_of_block (i := 2) K2_m.out (v := .int .i64 r3) rfl)
        have HH := Go.Lib.hid (c_l7HasF (B := B) V1 r3 (j : Int) wb (Nat.le_trans hB_m H_wb.out.size) (N3_m.out.below (H_wb.out.mono hB_m)) HO3.out (by omega))
        rw [E3.out] at HH
        go_wp2_with fail
        refine HH.out.mono ?_
        rintro e wc ⟨rfl, hq⟩
        have C_wc := Go.Lib.hid (copied_below C_wb.out hq)
        have H_wc := Go.Lib.hid (copied_bel C_wc.out)
        clear hq HH
        clear y20 y21 y22
        obtain ⟨⟨v0, d0⟩, f0⟩ := tab_at C_wc.out hjl
        have HQ := Go.Lib.hid (tab_next C_wc.out hjl (b := e3) (by show _ = (if _ then _ else _); simp [E1.out, E3.out]))
        go_wp2_with fail
        go_roundw
        case rel => exact ⟨j + 1, by omega, by go_num, HQ.out⟩
        case measure =>
          simp [intOf]; omega
    · have hji : ¬ (j : Int) < tl := by omega
      have HBO := Go.Lib.hid (tab_bools C_wr.out hjl htl8)
      have y00 := keepc H_wr.out (blk_lt K0_m.out) (cell_of_block (i := 0) K0_m.out (v := .int .i64 V1) rfl)
      have y01 := keepc H_wr.out (blk_lt K0_m.out) (cell_of_block (i := 1) K0_m.out (v := .slice a1 len1 cap1) rfl)
      have y02 := keepc H_wr.out (blk_lt K0_m.out) (cell_of_block (i := 2) K0_m.out (v := .int .i64 r1) rfl)
      have K3_e := Go.Lib.hid (blk_keep K3_m.out H_wr.out)
      have B_e := Go.Lib.hid (B_3.out.trans (H_wr.out.mono B_3.out.size))
      go_wp2_with fail
      refine (c_l7Of (B := wr.heap.size) HO1.out.hv.1 HO1.out.hv.2 HTL.out wr (Nat.le_refl _) HBO.out).mono ?_
      rintro e wf ⟨x, V, R, bb, ms, rfl, hown, hrel, hq⟩
      have K3_f := Go.Lib.hid (blk_keep K3_e.out hq)
      have B_f := Go.Lib.hid (B_e.out.trans (hq.mono B_e.out.size))
      have HKL := Go.Lib.hid (blk_lt K3_e.out)
      have HOW := Go.Lib.hid hown
      have HREL := Go.Lib.hid hrel
      obtain ⟨xa, xc, rfl, -⟩ := OwnN.form hown
      clear hown hrel hq
      have z0 := cell_of_block (i := 0) K3_f.out (v := .int .i64 0) rfl
      have f0 := free_of_block (i := 0) K3_f.out
      have z1 := cell_of_block (i := 1) K3_f.out (v := .slice none 0 0) rfl
      have f1 := free_of_block (i := 1) K3_f.out
      have z2 := cell_of_block (i := 2) K3_f.out (v := .int .i64 0) rfl
      have f2 := free_of_block (i := 2) K3_f.out
      go_wp2_with fail
      refine bodyPost_ret (v := .tuple #[.agg #[.int .i64 V, .slice xa ms.length xc, .int .i64 R], .bool bb]) (results_cell_q (p := 6) (q := 7) rfl _ _ (w.heap.size + 3) 25 _ (0, 0) _ rfl rfl (heap_setCell_same _ _ 2 _ _ _ (heap_setCell_same _ _ 1 _ _ _ (heap_setCell_same _ _ 0 _ _ _ K3_f.out))) Tryd.underlying25 rfl (by kernel_rfl)) rfl ⟨_, _, _, _, ms, rfl, ?_, .inl ⟨⟨⟨rfl, HO1.out, HO2.out⟩, ⟨rfl, HO1.out, HO3.out⟩⟩, HREL.out.congr (fun c h0 h1 => tabF_TBf h0 (by have := HTL.out; omega))⟩, ?_⟩
      · exact OwnN.mono (OwnN.block HOW.out (fun y h1 _ _ => by have h2 := HKL.out; rw [heap_setCell_other _ _ _ _ (by show y ≠ w.heap.size + 3; omega), heap_setCell_other _ _ _ _ (by show y ≠ w.heap.size + 3; omega), heap_setCell_other _ _ _ _ (by show y ≠ w.heap.size + 3; omega)])) B_e.out.size
      · exact (((B_f.out).setCell (p := ⟨w.heap.size + 3, 0, none⟩) (Nat.le_add_right _ _) _).setCell (p := ⟨w.heap.size + 3, 1, none⟩) (Nat.le_add_right _ _) _).setCell (p := ⟨w.heap.size + 3, 2, none⟩) (Nat.le_add_right _ _) _

end Go.Proofs.YthdofdglbdfkkaaDoor
