/-
  The model's functions that ask BddIf.
-/
import Derived.Test.YthdofdglbdfkkaaDoorRows
import Derived.Test.YthdofdglbdfkkaaDoorFoO
import Derived.WalkKit
import Derived.ProofKit
import Derived.OpenShut
import Derived.WalkSpells
import Derived.WalkLawsBesides
import Derived.Outline
import Derived.BigQuiet
import Derived.Handy
import Derived.LoopTactic
import Derived.Deep.Light
import Derived.Deep.RegionWith
import Derived.Deep.RegionHeld3
import Derived.Deep.DeepCutAuto
import Derived.Lib.Hide
import Derived.Maps.OwnRows
import Derived.Deep.Onto
import Derived.OneCell
import Derived.StillTailTactics
import Derived.Deep.AppendLies
import Derived.Deep.RegionLaw
namespace Go.Proofs.YthdofdglbdfkkaaDoor
open Go.ChangeShapes Go.WideShapes Go.ChangeAt Go.RowKit Go.Maps Go.ChangeMaps
set_option linter.unusedVariables false
set_option maxRecDepth 100000

theorem CondR.congr {P Q : Prop} {vars : Int} {f g : Int → Bool} (hpq : P ↔ Q) (hfg : P → ∀ c, 0 ≤ c → c < 2 ^ vars.toNat → f c = g c) {V : Int} {ms : List BN} {R : Int} {b : Bool} (h : CondR P vars f V ms R b) : CondR Q vars g V ms R b := by
  rcases h with ⟨h0, h1⟩ | ⟨h0, h1⟩
  · exact .inl ⟨hpq.1 h0, h1.congr (hfg h0)⟩
  · exact .inr ⟨fun q => h0 (hpq.2 q), h1⟩
theorem ok_const {V r : Int} (hv : 0 ≤ V ∧ V ≤ 13) (hr : r = 0 ∨ r = 1) : OkB V [] r := by
  refine ⟨hv, by decide, by rcases hr with rfl | rfl <;> decide, fun k hk => by simp at hk, fun x y _ hx => by simp at hx, ?_⟩
  have e : ord ([] : List BN) (([] : List BN).length + 1) r [] = [] := by
    show ord [] (0 + 1) r [] = []
    unfold ord
    rw [if_pos (by rcases hr with rfl | rfl <;> decide)]
  rw [e]
  exact ⟨fun i hi => by simp at hi, rfl⟩
/-- What a constant is. -/
theorem const_is {n V R : Int} {b k : Bool} (h : (V, R, k) = cR n b) : (0 ≤ n ∧ n ≤ 13 ∧ V = n ∧ R = bI b) ∨ (¬ (0 ≤ n ∧ n ≤ 13) ∧ V = 0) := by
  unfold cR at h
  by_cases hv : 0 ≤ n ∧ n ≤ 13
  · rw [show varsB n = true from decide_eq_true hv] at h
    simp only [if_true, Prod.mk.injEq] at h
    refine .inl ⟨hv.1, hv.2, h.1, ?_⟩
    rw [h.2.1]
    cases b <;> rfl
  · rw [show varsB n = false from decide_eq_false hv] at h
    simp only [Bool.false_eq_true, if_false, Prod.mk.injEq] at h
    exact .inr ⟨hv, h.1⟩
theorem bI_or (b : Bool) : bI b = 0 ∨ bI b = 1 := by cases b; exact .inl rfl; exact .inr rfl
theorem not_rel {V1 r1 VA RA VB RB : Int} {ns1 : List BN} {ka kb : Bool} (ha : (VA, RA, ka) = cR V1 false) (hb : (VB, RB, kb) = cR V1 true) :
    (TriP V1 ns1 r1 VA [] RA VB [] RB ↔ OkB V1 ns1 r1) ∧ (TriP V1 ns1 r1 VA [] RA VB [] RB → ∀ c, (if evF ns1 r1 c then evF [] RA c else evF [] RB c) = !evF ns1 r1 c) := by
  constructor
  · constructor
    · exact fun h => h.1.2.1
    · intro h
      rcases const_is ha with ⟨h0, h1, rfl, rfl⟩ | ⟨h0, -⟩
      · rcases const_is hb with ⟨k0, k1, rfl, rfl⟩ | ⟨k0, -⟩
        · exact ⟨⟨rfl, h, ok_const h.hv (bI_or _)⟩, ⟨rfl, h, ok_const h.hv (bI_or _)⟩⟩
        · exact absurd h.hv k0
      · exact absurd h.hv h0
  · intro h c
    have hv := h.1.2.1.hv
    rcases const_is ha with ⟨h0, h1, rfl, rfl⟩ | ⟨h0, -⟩
    · rcases const_is hb with ⟨k0, k1, rfl, rfl⟩ | ⟨k0, -⟩
      · show (if evF ns1 r1 c then evF [] 0 c else evF [] 1 c) = _
        rw [evF_0, evF_1]
        cases evF ns1 r1 c <;> rfl
      · exact absurd hv k0
    · exact absurd hv h0
theorem and_rel {V1 r1 V2 r2 VA RA : Int} {ns1 ns2 : List BN} {ka : Bool} (ha : (VA, RA, ka) = cR V1 false) :
    (TriP V1 ns1 r1 V2 ns2 r2 VA [] RA ↔ PairP V1 ns1 r1 V2 ns2 r2) ∧ (TriP V1 ns1 r1 V2 ns2 r2 VA [] RA → ∀ c, (if evF ns1 r1 c then evF ns2 r2 c else evF [] RA c) = rl 8 (evF ns1 r1 c) (evF ns2 r2 c)) := by
  constructor
  · constructor
    · exact fun h => h.1
    · intro h
      rcases const_is ha with ⟨h0, h1, rfl, rfl⟩ | ⟨h0, -⟩
      · exact ⟨h, ⟨rfl, h.2.1, ok_const h.2.1.hv (bI_or _)⟩⟩
      · exact absurd h.2.1.hv h0
  · intro h c
    have hv := h.1.2.1.hv
    rcases const_is ha with ⟨h0, h1, rfl, rfl⟩ | ⟨h0, -⟩
    · show (if evF ns1 r1 c then evF ns2 r2 c else evF [] 0 c) = _
      rw [evF_0, rl_and]
      cases evF ns1 r1 c <;> rfl
    · exact absurd hv h0
theorem or_rel {V1 r1 V2 r2 VA RA : Int} {ns1 ns2 : List BN} {ka : Bool} (ha : (VA, RA, ka) = cR V1 true) :
    (TriP V1 ns1 r1 VA [] RA V2 ns2 r2 ↔ PairP V1 ns1 r1 V2 ns2 r2) ∧ (TriP V1 ns1 r1 VA [] RA V2 ns2 r2 → ∀ c, (if evF ns1 r1 c then evF [] RA c else evF ns2 r2 c) = rl 14 (evF ns1 r1 c) (evF ns2 r2 c)) := by
  constructor
  · constructor
    · exact fun h => h.2
    · intro h
      rcases const_is ha with ⟨h0, h1, rfl, rfl⟩ | ⟨h0, -⟩
      · exact ⟨⟨rfl, h.2.1, ok_const h.2.1.hv (bI_or _)⟩, h⟩
      · exact absurd h.2.1.hv h0
  · intro h c
    have hv := h.1.2.1.hv
    rcases const_is ha with ⟨h0, h1, rfl, rfl⟩ | ⟨h0, -⟩
    · show (if evF ns1 r1 c then evF [] 1 c else evF ns2 r2 c) = _
      rw [evF_1, rl_or]
      cases evF ns1 r1 c <;> rfl
    · exact absurd hv h0

set_option maxHeartbeats 8000000 in
theorem c_BddAndS {B : Nat} {a1 : Option Addr} {len1 cap1 : Nat} {ns1 : List BN} (V1 r1 : Int) {a2 : Option Addr} {len2 cap2 : Nat} {ns2 : List BN} (V2 r2 : Int) (w : World) (hBw : B ≤ w.heap.size) (hn1 : BnsAt B w a1 len1 cap1 ns1) (hn2 : BnsAt B w a2 len2 cap2 ns2) :
    Calls Tryd.prog 33 #[.agg #[.int .i64 V1, .slice a1 len1 cap1, .int .i64 r1], .agg #[.int .i64 V2, .slice a2 len2 cap2, .int .i64 r2]] w (BddQ (CondR (PairP V1 ns1 r1 V2 ns2 r2) V1 (fun c => rl 8 (evF ns1 r1 c) (evF ns2 r2 c))) w) := by
  have HN1 := Go.Lib.hid hn1
  have HN2 := Go.Lib.hid hn2
  clear hn1 hn2
  go_enter Tryd.func33, Tryd.ntmps33
  go_upto_region 1 with fail
  refine code_gen (R := fun wb => wb.heap[w.heap.size]? = some (.cells #[.int .i64 V1, .slice a1 len1 cap1, .int .i64 r1] 25 (0, 0)) ∧ wb.heap[w.heap.size + 1]? = some (.cells #[.int .i64 V2, .slice a2 len2 cap2, .int .i64 r2] 25 (0, 0)) ∧ wb.heap[w.heap.size + 2]? = some (.cells #[.int .i64 0, .slice none 0 0, .int .i64 0] 25 (0, 0)) ∧ Below w.heap.size w wb) ⟨(al3 _ _ _ _).1, (al3 _ _ _ _).2.1, (al3 _ _ _ _).2.2, by go_grown⟩ ?_
  rintro w0 ⟨k0, k1, k2, hb0⟩
  have K0_0 := Go.Lib.hid k0
  have K1_0 := Go.Lib.hid k1
  have K2_0 := Go.Lib.hid k2
  have B_0 := Go.Lib.hid hb0
  have N1_0 := Go.Lib.hid (HN1.out.below (hb0.mono hBw))
  have N2_0 := Go.Lib.hid (HN2.out.below (hb0.mono hBw))
  have hB_0 : B ≤ w0.heap.size := Nat.le_trans hBw hb0.size
  clear k0 k1 k2 hb0
  obtain ⟨VA, RA, kA, hkA⟩ : ∃ V R k, (V, R, k) = cR V1 false := ⟨_, _, _, rfl⟩
  have HKA := Go.Lib.hid hkA
  clear hkA
  have x00 := cell_of_block (i := 0) K0_0.out (v := .int .i64 V1) rfl
  have x01 := cell_of_block (i := 1) K0_0.out (v := .slice a1 len1 cap1) rfl
  have x02 := cell_of_block (i := 2) K0_0.out (v := .int .i64 r1) rfl
  go_wp2_with fail
  refine (c_BddConstS V1 false VA RA kA HKA.out w0).mono ?_
  rintro e w1 ⟨rfl, hq⟩
  have K0_1 := Go.Lib.hid (blk_keep K0_0.out hq)
  have K1_1 := Go.Lib.hid (blk_keep K1_0.out hq)
  have K2_1 := Go.Lib.hid (blk_keep K2_0.out hq)
  have B_1 := Go.Lib.hid (B_0.out.trans (hq.mono B_0.out.size))
  have N1_1 := Go.Lib.hid (N1_0.out.below (hq.mono hB_0))
  have N2_1 := Go.Lib.hid (N2_0.out.below (hq.mono hB_0))
  have hB_1 : B ≤ w1.heap.size := Nat.le_trans hB_0 hq.size
  clear hq x00 x01 x02
  go_upto_region 2 with fail
  refine code_gen (R := fun wb => wb.heap[w1.heap.size]? = some (.cells #[.int .i64 VA, .slice none 0 0, .int .i64 RA] 25 (0, 0)) ∧ Below w1.heap.size w1 wb) ⟨by first | exact (MapKept.heap_alloc _ _).1 | exact heap_alloc_new _ _, by go_grown⟩ ?_
  rintro w2 ⟨kk, hq⟩
  have K0_2 := Go.Lib.hid (blk_keep K0_1.out hq)
  have K1_2 := Go.Lib.hid (blk_keep K1_1.out hq)
  have K2_2 := Go.Lib.hid (blk_keep K2_1.out hq)
  have B_2 := Go.Lib.hid (B_1.out.trans (hq.mono B_1.out.size))
  have N1_2 := Go.Lib.hid (N1_1.out.below (hq.mono hB_1))
  have N2_2 := Go.Lib.hid (N2_1.out.below (hq.mono hB_1))
  have hB_2 : B ≤ w2.heap.size := Nat.le_trans hB_1 hq.size
  obtain ⟨gA, hgA⟩ : ∃ g, w1.heap.size = g := ⟨_, rfl⟩
  rw [hgA] at kk ⊢
  have AA_2 := Go.Lib.hid kk
  clear kk hq hgA
  have x00 := cell_of_block (i := 0) K0_2.out (v := .int .i64 V1) rfl
  have x01 := cell_of_block (i := 1) K0_2.out (v := .slice a1 len1 cap1) rfl
  have x02 := cell_of_block (i := 2) K0_2.out (v := .int .i64 r1) rfl
  have x10 := cell_of_block (i := 0) K1_2.out (v := .int .i64 V2) rfl
  have x11 := cell_of_block (i := 1) K1_2.out (v := .slice a2 len2 cap2) rfl
  have x12 := cell_of_block (i := 2) K1_2.out (v := .int .i64 r2) rfl
  have aA0 := cell_of_block (i := 0) AA_2.out (v := .int .i64 VA) rfl
  have aA1 := cell_of_block (i := 1) AA_2.out (v := .slice none 0 0) rfl
  have aA2 := cell_of_block (i := 2) AA_2.out (v := .int .i64 RA) rfl
  go_wp2_with fail
  refine (c_BddIfS (B := B) V1 r1 V2 r2 VA RA w2 hB_2 N1_2.out N2_2.out (nil_bns _ _)).mono ?_
  rintro e w3 ⟨x, V, R, bb, ms, rfl, hown, hrel, hq⟩
  have K2_3 := Go.Lib.hid (blk_keep K2_2.out hq)
  have B_3 := Go.Lib.hid (B_2.out.trans (hq.mono B_2.out.size))
  have HKL := Go.Lib.hid (blk_lt K2_2.out)
  have HOW := Go.Lib.hid hown
  have HREL := Go.Lib.hid hrel
  obtain ⟨xa, xc, rfl, -⟩ := OwnN.form hown
  clear hown hrel hq
  have z0 := cell_of_block (i := 0) K2_3.out (v := .int .i64 0) rfl
  have f0 := free_of_block (i := 0) K2_3.out
  have z1 := cell_of_block (i := 1) K2_3.out (v := .slice none 0 0) rfl
  have f1 := free_of_block (i := 1) K2_3.out
  have z2 := cell_of_block (i := 2) K2_3.out (v := .int .i64 0) rfl
  have f2 := free_of_block (i := 2) K2_3.out
  go_wp2_with fail
  refine bodyPost_ret (v := .tuple #[.agg #[.int .i64 V, .slice xa ms.length xc, .int .i64 R], .bool bb]) (results_cell_q (p := 4) (q := 5) rfl _ _ (w.heap.size + 2) 25 _ (0, 0) _ rfl rfl (heap_setCell_same _ _ 2 _ _ _ (heap_setCell_same _ _ 1 _ _ _ (heap_setCell_same _ _ 0 _ _ _ K2_3.out))) Tryd.underlying25 rfl (by kernel_rfl)) rfl ⟨_, _, _, _, ms, rfl, ?_, HREL.out.congr (and_rel HKA.out).1 (fun h c _ _ => (and_rel HKA.out).2 h c), ?_⟩
  · exact OwnN.mono (OwnN.block HOW.out (fun y h1 _ _ => by have h2 := HKL.out; rw [heap_setCell_other _ _ _ _ (by show y ≠ w.heap.size + 2; omega), heap_setCell_other _ _ _ _ (by show y ≠ w.heap.size + 2; omega), heap_setCell_other _ _ _ _ (by show y ≠ w.heap.size + 2; omega)])) B_2.out.size
  · exact (((B_3.out).setCell (p := ⟨w.heap.size + 2, 0, none⟩) (Nat.le_add_right _ _) _).setCell (p := ⟨w.heap.size + 2, 1, none⟩) (Nat.le_add_right _ _) _).setCell (p := ⟨w.heap.size + 2, 2, none⟩) (Nat.le_add_right _ _) _

set_option maxHeartbeats 8000000 in
theorem c_BddOrS {B : Nat} {a1 : Option Addr} {len1 cap1 : Nat} {ns1 : List BN} (V1 r1 : Int) {a2 : Option Addr} {len2 cap2 : Nat} {ns2 : List BN} (V2 r2 : Int) (w : World) (hBw : B ≤ w.heap.size) (hn1 : BnsAt B w a1 len1 cap1 ns1) (hn2 : BnsAt B w a2 len2 cap2 ns2) :
    Calls Tryd.prog 58 #[.agg #[.int .i64 V1, .slice a1 len1 cap1, .int .i64 r1], .agg #[.int .i64 V2, .slice a2 len2 cap2, .int .i64 r2]] w (BddQ (CondR (PairP V1 ns1 r1 V2 ns2 r2) V1 (fun c => rl 14 (evF ns1 r1 c) (evF ns2 r2 c))) w) := by
  have HN1 := Go.Lib.hid hn1
  have HN2 := Go.Lib.hid hn2
  clear hn1 hn2
  go_enter Tryd.func58, Tryd.ntmps58
  go_upto_region 1 with fail
  refine code_gen (R := fun wb => wb.heap[w.heap.size]? = some (.cells #[.int .i64 V1, .slice a1 len1 cap1, .int .i64 r1] 25 (0, 0)) ∧ wb.heap[w.heap.size + 1]? = some (.cells #[.int .i64 V2, .slice a2 len2 cap2, .int .i64 r2] 25 (0, 0)) ∧ wb.heap[w.heap.size + 2]? = some (.cells #[.int .i64 0, .slice none 0 0, .int .i64 0] 25 (0, 0)) ∧ Below w.heap.size w wb) ⟨(al3 _ _ _ _).1, (al3 _ _ _ _).2.1, (al3 _ _ _ _).2.2, by go_grown⟩ ?_
  rintro w0 ⟨k0, k1, k2, hb0⟩
  have K0_0 := Go.Lib.hid k0
  have K1_0 := Go.Lib.hid k1
  have K2_0 := Go.Lib.hid k2
  have B_0 := Go.Lib.hid hb0
  have N1_0 := Go.Lib.hid (HN1.out.below (hb0.mono hBw))
  have N2_0 := Go.Lib.hid (HN2.out.below (hb0.mono hBw))
  have hB_0 : B ≤ w0.heap.size := Nat.le_trans hBw hb0.size
  clear k0 k1 k2 hb0
  obtain ⟨VA, RA, kA, hkA⟩ : ∃ V R k, (V, R, k) = cR V1 true := ⟨_, _, _, rfl⟩
  have HKA := Go.Lib.hid hkA
  clear hkA
  have x00 := cell_of_block (i := 0) K0_0.out (v := .int .i64 V1) rfl
  have x01 := cell_of_block (i := 1) K0_0.out (v := .slice a1 len1 cap1) rfl
  have x02 := cell_of_block (i := 2) K0_0.out (v := .int .i64 r1) rfl
  go_wp2_with fail
  refine (c_BddConstS V1 true VA RA kA HKA.out w0).mono ?_
  rintro e w1 ⟨rfl, hq⟩
  have K0_1 := Go.Lib.hid (blk_keep K0_0.out hq)
  have K1_1 := Go.Lib.hid (blk_keep K1_0.out hq)
  have K2_1 := Go.Lib.hid (blk_keep K2_0.out hq)
  have B_1 := Go.Lib.hid (B_0.out.trans (hq.mono B_0.out.size))
  have N1_1 := Go.Lib.hid (N1_0.out.below (hq.mono hB_0))
  have N2_1 := Go.Lib.hid (N2_0.out.below (hq.mono hB_0))
  have hB_1 : B ≤ w1.heap.size := Nat.le_trans hB_0 hq.size
  clear hq x00 x01 x02
  go_upto_region 2 with fail
  refine code_gen (R := fun wb => wb.heap[w1.heap.size]? = some (.cells #[.int .i64 VA, .slice none 0 0, .int .i64 RA] 25 (0, 0)) ∧ Below w1.heap.size w1 wb) ⟨by first | exact (MapKept.heap_alloc _ _).1 | exact heap_alloc_new _ _, by go_grown⟩ ?_
  rintro w2 ⟨kk, hq⟩
  have K0_2 := Go.Lib.hid (blk_keep K0_1.out hq)
  have K1_2 := Go.Lib.hid (blk_keep K1_1.out hq)
  have K2_2 := Go.Lib.hid (blk_keep K2_1.out hq)
  have B_2 := Go.Lib.hid (B_1.out.trans (hq.mono B_1.out.size))
  have N1_2 := Go.Lib.hid (N1_1.out.below (hq.mono hB_1))
  have N2_2 := Go.Lib.hid (N2_1.out.below (hq.mono hB_1))
  have hB_2 : B ≤ w2.heap.size := Nat.le_trans hB_1 hq.size
  obtain ⟨gA, hgA⟩ : ∃ g, w1.heap.size = g := ⟨_, rfl⟩
  rw [hgA] at kk ⊢
  have AA_2 := Go.Lib.hid kk
  clear kk hq hgA
  have x00 := cell_of_block (i := 0) K0_2.out (v := .int .i64 V1) rfl
  have x01 := cell_of_block (i := 1) K0_2.out (v := .slice a1 len1 cap1) rfl
  have x02 := cell_of_block (i := 2) K0_2.out (v := .int .i64 r1) rfl
  have x10 := cell_of_block (i := 0) K1_2.out (v := .int .i64 V2) rfl
  have x11 := cell_of_block (i := 1) K1_2.out (v := .slice a2 len2 cap2) rfl
  have x12 := cell_of_block (i := 2) K1_2.out (v := .int .i64 r2) rfl
  have aA0 := cell_of_block (i := 0) AA_2.out (v := .int .i64 VA) rfl
  have aA1 := cell_of_block (i := 1) AA_2.out (v := .slice none 0 0) rfl
  have aA2 := cell_of_block (i := 2) AA_2.out (v := .int .i64 RA) rfl
  go_wp2_with fail
  refine (c_BddIfS (B := B) V1 r1 VA RA V2 r2 w2 hB_2 N1_2.out (nil_bns _ _) N2_2.out).mono ?_
  rintro e w3 ⟨x, V, R, bb, ms, rfl, hown, hrel, hq⟩
  have K2_3 := Go.Lib.hid (blk_keep K2_2.out hq)
  have B_3 := Go.Lib.hid (B_2.out.trans (hq.mono B_2.out.size))
  have HKL := Go.Lib.hid (blk_lt K2_2.out)
  have HOW := Go.Lib.hid hown
  have HREL := Go.Lib.hid hrel
  obtain ⟨xa, xc, rfl, -⟩ := OwnN.form hown
  clear hown hrel hq
  have z0 := cell_of_block (i := 0) K2_3.out (v := .int .i64 0) rfl
  have f0 := free_of_block (i := 0) K2_3.out
  have z1 := cell_of_block (i := 1) K2_3.out (v := .slice none 0 0) rfl
  have f1 := free_of_block (i := 1) K2_3.out
  have z2 := cell_of_block (i := 2) K2_3.out (v := .int .i64 0) rfl
  have f2 := free_of_block (i := 2) K2_3.out
  go_wp2_with fail
  refine bodyPost_ret (v := .tuple #[.agg #[.int .i64 V, .slice xa ms.length xc, .int .i64 R], .bool bb]) (results_cell_q (p := 4) (q := 5) rfl _ _ (w.heap.size + 2) 25 _ (0, 0) _ rfl rfl (heap_setCell_same _ _ 2 _ _ _ (heap_setCell_same _ _ 1 _ _ _ (heap_setCell_same _ _ 0 _ _ _ K2_3.out))) Tryd.underlying25 rfl (by kernel_rfl)) rfl ⟨_, _, _, _, ms, rfl, ?_, HREL.out.congr (or_rel HKA.out).1 (fun h c _ _ => (or_rel HKA.out).2 h c), ?_⟩
  · exact OwnN.mono (OwnN.block HOW.out (fun y h1 _ _ => by have h2 := HKL.out; rw [heap_setCell_other _ _ _ _ (by show y ≠ w.heap.size + 2; omega), heap_setCell_other _ _ _ _ (by show y ≠ w.heap.size + 2; omega), heap_setCell_other _ _ _ _ (by show y ≠ w.heap.size + 2; omega)])) B_2.out.size
  · exact (((B_3.out).setCell (p := ⟨w.heap.size + 2, 0, none⟩) (Nat.le_add_right _ _) _).setCell (p := ⟨w.heap.size + 2, 1, none⟩) (Nat.le_add_right _ _) _).setCell (p := ⟨w.heap.size + 2, 2, none⟩) (Nat.le_add_right _ _) _
end Go.Proofs.YthdofdglbdfkkaaDoor
