/-
  Copies, sizes and equality of diagrams.
-/
import Derived.Test.YtpehddfnlmkicaaDoorRows
import Derived.Test.YtpehddfnlmkicaaDoorG0
import Derived.Test.YtpehddfnlmkicaaDoorBdM
import Derived.Test.YtpehddfnlmkicaaDoorBdI
import Derived.Laws.OwnMore
import Derived.Deep.Slices
import Derived.WalkKit
import Derived.ProofKit
import Derived.OpenShut
import Derived.WalkSpells
import Derived.WalkLawsBesides
import Derived.Outline
import Derived.BigQuiet
import Derived.Handy
import Derived.LoopTactic
import Derived.Deep.Light
import Derived.Deep.RegionWith
import Derived.Deep.RegionHeld3
import Derived.Deep.DeepCutAuto
import Derived.Lib.Hide
import Derived.Maps.OwnRows
import Derived.Deep.Onto
import Derived.OneCell
import Derived.StillTailTactics
import Derived.Deep.AppendLies
import Derived.Deep.RegionLaw
namespace Go.Proofs.YtpehddfnlmkicaaDoor
open Go.ChangeShapes Go.WideShapes Go.ChangeAt Go.RowKit Go.Maps Go.ChangeMaps
set_option linter.unusedVariables false
set_option maxRecDepth 100000


theorem bnInfo : (Tryd.prog.info? 54).map (fun i => (i.zero, i.size, i.bytes)) = some (some (.agg #[.int .i64 0, .int .i64 0, .int .i64 0]), 3, 24) := by kernel_rfl
theorem bn_store (x : BN) {w : World} {b len j : Nat} (h : w.there b 0 (len * 3)) (hj : j < len) : (storeCells ⟨b, j * 3, none⟩ x.cells).run Tryd.prog w = .ok () (w.setCells b (j * 3) x.cells) := by
  have := run_storeCells_cells (P := Tryd.prog) b (j * 3) x.cells 0 w (fun q hq => by have hq' : q < 3 := hq; have := (h (j * 3 + q) (by omega)).1; simpa using this) (fun q hq => by have hq' : q < 3 := hq; have := (h (j * 3 + q) (by omega)).2; simpa using this)
    (fun v hv => by simp [BN.cells] at hv; rcases hv with rfl | rfl | rfl <;> rfl)
  simpa using this
theorem c_toBddNode (x : BN) (w : World) :
    Calls Tryd.prog 74 #[.agg x.cells.toArray] w fun e w' => e = .returned (.agg x.cells.toArray) ∧ Below w.heap.size w w' := by
  obtain ⟨v, lo, hi⟩ := x
  simp only [BN.cells]
  go_enter Tryd.func74, Tryd.ntmps74
  go_wp2
  exact bodyPost_ret (v := .agg #[.int .i64 v, .int .i64 lo, .int .i64 hi]) (results_cell_row rfl _ _ (w.heap.size + 1) 54 #[.int .i64 v, .int .i64 lo, .int .i64 hi] (0, 0) _ rfl (heap_alloc2_at _ _ _ _) Tryd.underlying54 rfl (by kernel_rfl)) rfl ⟨rfl, by go_grown⟩
set_option maxHeartbeats 4000000 in
theorem c_toBddNodeS {B : Nat} {a : Option Addr} {len cap : Nat} {ns : List BN} (w : World) (hBw : B ≤ w.heap.size) (h : BnsAt B w a len cap ns) (hlen : len ≤ 1048576) :
    Calls Tryd.prog 50 #[.slice a len cap] w (CopyP BN.cells BN.ok 3 ns len w) := by
  have HN := Go.Lib.hid h
  have hnl : ns.length = len := h.1
  have HNL := Go.Lib.hid hnl
  clear h hnl
  obtain ⟨i0, hi0, hz0, hz1, hz2⟩ := info_parts bnInfo
  obtain ⟨w0, hrun, hown, hgrow⟩ := run_make_full (P := Tryd.prog) w w.heap.size 22 54 i0 _ 3 Tryd.underlying22 hi0 hz0 hz1 .i64 .i64 len (by rw [hz2]; omega) (by unfold maxLen; omega) (Nat.le_refl _)
  have hlt0 : w.heap.size < w0.heap.size := by
    rcases hown.2 with ⟨h', _⟩ | ⟨g', cap', cur, h', _, hg, _⟩
    · simp at h'
    · simp only [Value.slice.injEq, Option.some.injEq, Addr.mk.injEq, and_true, true_and] at h'
      obtain ⟨rfl, rfl⟩ := h'
      rcases Nat.lt_or_ge w.heap.size w0.heap.size with h | h
      · exact h
      · rw [Array.getElem?_eq_none h] at hg; cases hg
  have HT0 := Go.Lib.hid (show w0.there w.heap.size 0 (len * 3) from fun j hj => ⟨by
      rw [Nat.zero_add, hown.cellAt j (by omega)]
      have hl := hown.1
      rw [List.getElem?_eq_getElem (by omega)]; rfl, by rw [Nat.zero_add]; exact hown.frozenAt j⟩)
  have HB0 := Go.Lib.hid ((Below.refl w.heap.size w).grown hgrow (Nat.le_refl _) (by simp))
  clear hi0 hz0 hz1 hz2 hown hgrow
  go_enter Tryd.func50, Tryd.ntmps50
  go_wp2
  clear hrun
  go_loopw [4] (fun i wr => CopiedR BN.cells 3 ns len w i wr) (fun i _ => len - (intOf i).toNat)
  case atStart => exact ⟨0, by omega, rfl, hlt0, HT0.out, fun t _ h => by omega, HB0.out⟩
  case round =>
    obtain ⟨j, hj, rfl, hlt, hth, hcp, hBr⟩ := hrel
    have HTH := Go.Lib.hid hth
    have HCP := Go.Lib.hid hcp
    have HBr := Go.Lib.hid hBr
    clear hth hcp hBr HT0 HB0 hlt0
    by_cases hjl : j < len
    · have hki : (j : Int) < len := by omega
      have hjn : j < ns.length := by have := HNL.out; omega
      obtain ⟨bd, b, off, hbd, -, rfl, hbB, c0, c1, c2⟩ := bn_at (HN.out.below (HBr.out.mono hBw)) hjl
      have HND := Go.Lib.hid (show bd = ns[j] by rw [hbd]; simp [List.getD, hjn])
      clear hbd
      go_wp2_with fail
      refine (c_toBddNode bd _).mono ?_
      rintro e w1 ⟨rfl, hB1⟩
      have HT1 := Go.Lib.hid (there_below HTH.out hB1 hlt)
      have HB1 := Go.Lib.hid (HBr.out.trans (hB1.mono HBr.out.size))
      have hl1 : w.heap.size < w1.heap.size := Nat.lt_of_lt_of_le hlt hB1.size
      have HC1 := Go.Lib.hid (show ∀ t (h : t < ns.length), t < j → ∀ c, c < 3 → w1.cell? ⟨w.heap.size, t * 3 + c, none⟩ = (ns[t]).cells[c]? from fun t h htj c hc => (hB1.cell (p := ⟨w.heap.size, t * 3 + c, none⟩) hlt).trans (HCP.out t h htj c hc))
      clear hB1 c0 c1 c2
      have hst := bn_store bd HT1.out hjl
      go_wp2
      go_roundw
      case rel => exact copiedR_next (cells := BN.cells) (c := 3) (fun _ => rfl) hjl hjn hl1 HT1.out HC1.out HB1.out HND.out
      case measure => simp [intOf]; omega
    · have hki : ¬ (j : Int) < len := by omega
      obtain rfl : j = len := by omega
      go_wp2
      go_ret
      obtain ⟨h1, -, -, h4, -, -⟩ := HN.out
      exact ⟨rfl, ⟨h1, Nat.le_refl _, by unfold maxLen; omega, h4, fun e => by simp at e, .inr ⟨w.heap.size, 0, rfl, hlt, fun i hi q hq => by rw [Nat.zero_add]; exact HCP.out i hi (by omega) q hq⟩⟩, ⟨hlt, HTH.out⟩, HBr.out⟩

/-- The blocks of a diagram's copy: the parameter, the result, what is under way. -/
structure TB (A X : Array Value) (w wb : World) : Prop where
  b1 : wb.heap[w.heap.size]? = some (.cells A 32 (0, 0))
  b2 : wb.heap[w.heap.size + 1]? = some (.cells #[.int .i64 0, .slice none 0 0, .int .i64 0] 24 (0, 0))
  b3 : wb.heap[w.heap.size + 2]? = some (.cells X 24 (0, 0))
  B : Below w.heap.size w wb
theorem TB.lt {A X : Array Value} {w wb : World} (h : TB A X w wb) : w.heap.size + 2 < wb.heap.size := (Array.getElem?_eq_some_iff.1 h.b3).1
theorem TB.below {A X : Array Value} {w wb w' : World} (h : TB A X w wb) (hb : Below wb.heap.size wb w') : TB A X w w' :=
  have hl := h.lt
  ⟨(hb.block _ (by omega)).trans h.b1, (hb.block _ (by omega)).trans h.b2, (hb.block _ hl).trans h.b3, h.B.trans (hb.mono h.B.size)⟩
theorem TB.put {A X : Array Value} {w wb : World} (h : TB A X w wb) (i : Nat) (v : Value) : TB A (X.setIfInBounds i v) w (wb.setCell ⟨w.heap.size + 2, i, none⟩ v) :=
  ⟨(heap_setCell_other _ _ _ _ (by simp)).trans h.b1, (heap_setCell_other _ _ _ _ (by simp)).trans h.b2, heap_setCell_same _ _ _ _ _ _ h.b3, h.B.setCell (by simp) v⟩
theorem TB.start (A X : Array Value) (w : World) : TB A X w (((w.alloc (.cells A 32)).alloc (.cells #[.int .i64 0, .slice none 0 0, .int .i64 0] 24)).alloc (.cells X 24)) := by
  refine ⟨?_, heap_alloc2_at _ _ _ _, ?_, by go_grown⟩
  · rw [(MapKept.heap_alloc _ _).2 _ (Nat.lt_of_lt_of_le (alloc_ltS _ _) (Nat.le_of_lt (alloc_ltS _ _))), (MapKept.heap_alloc _ _).2 _ (alloc_ltS _ _)]
    exact (MapKept.heap_alloc _ _).1
  · have e : w.heap.size + 2 = ((w.alloc (.cells A 32)).alloc (.cells #[.int .i64 0, .slice none 0 0, .int .i64 0] 24)).heap.size := by show _ = ((w.heap.push _).push _).size; simp
    rw [e]
    exact (MapKept.heap_alloc _ _).1
/-- A copy of a diagram. -/
def CopyB (vars root : Int) (ns : List BN) (len : Nat) (w : World) (e : Ending) (w' : World) : Prop := ∃ g, e = .returned (.agg #[.int .i64 vars, .slice (some ⟨g, 0, none⟩) len len, .int .i64 root]) ∧ BnsAt w'.heap.size w' (some ⟨g, 0, none⟩) len len ns ∧ Room w' g (len * 3) ∧ w.heap.size ≤ g ∧ Below w.heap.size w w'
set_option maxHeartbeats 8000000 in
theorem c_toBdd {B : Nat} {a : Option Addr} {len cap : Nat} {ns : List BN} (vars root : Int) (w : World) (hBw : B ≤ w.heap.size) (h : BnsAt B w a len cap ns) (hl : len ≤ 1048576) :
    Calls Tryd.prog 19 #[.agg #[.int .i64 vars, .slice a len cap, .int .i64 root]] w (CopyB vars root ns len w) := by
  have HN := Go.Lib.hid h
  clear h
  go_enter Tryd.func19, Tryd.ntmps19
  go_upto_region 3 with fail
  refine code_gen (R := fun wb => TB #[.int .i64 vars, .slice a len cap, .int .i64 root] #[.int .i64 vars, .slice none 0 0, .int .i64 0] w wb) (by first | exact TB.start _ _ _ | exact (TB.start _ _ _).put 0 _) ?_
  intro w0 ht
  have HT0 := Go.Lib.hid ht
  have x1 := cell_of_block (i := 1) ht.b1 (v := .slice a len cap) rfl
  have hB0 := Nat.le_trans hBw ht.B.size
  have HN0 := Go.Lib.hid (HN.out.below (ht.B.mono hBw))
  clear ht
  go_wp2_with fail
  refine (c_toBddNodeS (B := B) w0 hB0 HN0.out hl).mono ?_
  rintro e w1 ⟨rfl, hr, hth, hq⟩
  have HT1 := Go.Lib.hid (HT0.out.below hq)
  have HR := Go.Lib.hid hr
  have HTH := Go.Lib.hid hth
  have hl0 := HT0.out.lt
  obtain ⟨g, hg⟩ : ∃ g, w0.heap.size = g := ⟨_, rfl⟩
  have hg1 : w0.heap.size < w1.heap.size := hth.1
  rw [hg] at HR HTH hl0 hg1 ⊢
  have y1 := cell_of_block (i := 1) HT1.out.b3 (v := .slice none 0 0) rfl
  have f1 := free_of_block (i := 1) HT1.out.b3
  clear hr hth hq x1 hg HT0 HN0
  go_upto_region 4 with fail
  refine code_gen (R := fun wb => TB #[.int .i64 vars, .slice a len cap, .int .i64 root] #[.int .i64 vars, .slice (some ⟨g, 0, none⟩) len len, .int .i64 0] w wb ∧ wb.heap[g]? = w1.heap[g]?) ⟨HT1.out.put 1 _, heap_setCell_other _ _ _ _ (by show g ≠ w.heap.size + 2; omega)⟩ ?_
  rintro w2 ⟨ht, hk⟩
  have HT2 := Go.Lib.hid ht
  have HK2 := Go.Lib.hid hk
  have x2 := cell_of_block (i := 2) ht.b1 (v := .int .i64 root) rfl
  have y2 := cell_of_block (i := 2) ht.b3 (v := .int .i64 0) rfl
  have f2 := free_of_block (i := 2) ht.b3
  clear ht hk y1 f1
  go_upto_region 5 with fail
  refine code_gen (R := fun wb => TB #[.int .i64 vars, .slice a len cap, .int .i64 root] #[.int .i64 vars, .slice (some ⟨g, 0, none⟩) len len, .int .i64 root] w wb ∧ wb.heap[g]? = w1.heap[g]?) ⟨HT2.out.put 2 _, (heap_setCell_other _ _ _ _ (by show g ≠ w.heap.size + 2; omega)).trans HK2.out⟩ ?_
  rintro w3 ⟨ht, hk⟩
  have HT3 := Go.Lib.hid ht
  have HK3 := Go.Lib.hid hk
  have z0 := cell_of_block (i := 0) ht.b3 (v := .int .i64 vars) rfl
  have z1 := cell_of_block (i := 1) ht.b3 (v := .slice (some ⟨g, 0, none⟩) len len) rfl
  have z2 := cell_of_block (i := 2) ht.b3 (v := .int .i64 root) rfl
  have u0 := cell_of_block (i := 0) ht.b2 (v := .int .i64 0) rfl
  have u1 := cell_of_block (i := 1) ht.b2 (v := .slice none 0 0) rfl
  have u2 := cell_of_block (i := 2) ht.b2 (v := .int .i64 0) rfl
  have v0 := free_of_block (i := 0) ht.b2
  have v1 := free_of_block (i := 1) ht.b2
  have v2 := free_of_block (i := 2) ht.b2
  have hgl : g < w3.heap.size := by
    have h1 : (w3.heap[g]?).isSome := by rw [hk]; simp [hg1]
    simpa using h1
  clear ht hk x2 y2 f2
  go_wp2_with fail
  have hgo : ∀ X Y Z : Value, (((w3.setCell ⟨w.heap.size + 1, 0, none⟩ X).setCell ⟨w.heap.size + 1, 1, none⟩ Y).setCell ⟨w.heap.size + 1, 2, none⟩ Z).heap[g]? = w1.heap[g]? := fun X Y Z =>
    (heap_setCell_other _ _ _ _ (by show g ≠ w.heap.size + 1; omega)).trans ((heap_setCell_other _ _ _ _ (by show g ≠ w.heap.size + 1; omega)).trans ((heap_setCell_other _ _ _ _ (by show g ≠ w.heap.size + 1; omega)).trans HK3.out))
  refine bodyPost_ret (v := .agg #[.int .i64 vars, .slice (some ⟨g, 0, none⟩) len len, .int .i64 root]) (results_cell_row rfl _ _ (w.heap.size + 1) 24 _ (0, 0) _ rfl (heap_setCell_same _ _ 2 _ _ _ (heap_setCell_same _ _ 1 _ _ _ (heap_setCell_same _ _ 0 _ _ _ HT3.out.b2))) Tryd.underlying24 rfl (by kernel_rfl)) rfl ⟨g, rfl, ?_, ?_, by omega, ?_⟩
  · obtain ⟨h1, h2, h3, h4, h5, h6⟩ := HR.out
    refine ⟨h1, h2, h3, h4, h5, ?_⟩
    rcases h6 with h6 | ⟨b, off, e, hlt, hc⟩
    · exact .inl h6
    · simp only [Option.some.injEq, Addr.mk.injEq, and_true] at e
      obtain ⟨rfl, rfl⟩ := e
      exact .inr ⟨g, 0, rfl, by simpa using hgl, fun i hi j hj => (World.cell?_of_block (w := w1) (a := ⟨g, 0 + i * 3 + j, none⟩) (hgo _ _ _)).trans (hc i hi j hj)⟩
  · refine ⟨by simpa using hgl, fun j hj => ?_⟩
    have := HTH.out.2 j hj
    rw [World.cell?_of_block (w := w1) (a := ⟨g, 0 + j, none⟩) (hgo _ _ _), World.frozen?_of_block (w := w1) (a := ⟨g, 0 + j, none⟩) (hgo _ _ _)]
    exact this
  · exact ((HT3.out.B.setCell (p := ⟨w.heap.size + 1, 0, none⟩) (Nat.le_succ _) _).setCell (p := ⟨w.heap.size + 1, 1, none⟩) (Nat.le_succ _) _).setCell (p := ⟨w.heap.size + 1, 2, none⟩) (Nat.le_succ _) _

theorem c_szBddNodeS {B : Nat} {a : Option Addr} {len cap : Nat} {ns : List BN} (left : Int) (hl0 : 0 ≤ left) (hl1 : left ≤ 1048576) (w : World) (h : BnsAt B w a len cap ns) :
    Calls Tryd.prog 48 #[.slice a len cap, .int .i64 left] w fun e w' => ∃ r, e = .returned (.int .i64 r) ∧ r ≤ left ∧ (0 ≤ r → (len : Int) ≤ left) ∧ Below w.heap.size w w' := by
  have hm : len ≤ maxLen := Nat.le_trans h.2.1 h.2.2.1
  unfold maxLen at hm
  have hw : wrap64 (left - len) = left - len := IntWalk.wrap64_in _ (by omega)
  clear h
  by_cases hneg : left - len < 0
  · go_enter Tryd.func48, Tryd.ntmps48
    go_wp2
    go_ret
    exact ⟨_, rfl, by omega, by omega, Below.refl _ _⟩
  · go_enter Tryd.func48, Tryd.ntmps48
    go_wp2
    go_ret
    exact ⟨_, rfl, by omega, by omega, Below.refl _ _⟩
def SzB (len : Nat) (w : World) (e : Ending) (w' : World) : Prop := ∃ r, e = .returned (.int .i64 r) ∧ (0 ≤ r → (len : Int) ≤ 1048576) ∧ Below w.heap.size w w'
set_option maxHeartbeats 4000000 in
theorem c_szBdd {B : Nat} {a : Option Addr} {len cap : Nat} {ns : List BN} (vars root : Int) (w : World) (hBw : B ≤ w.heap.size) (h : BnsAt B w a len cap ns) :
    Calls Tryd.prog 17 #[.agg #[.int .i64 vars, .slice a len cap, .int .i64 root], .int .i64 1048576] w (SzB len w) := by
  have HN := Go.Lib.hid h
  clear h
  go_enter Tryd.func17, Tryd.ntmps17
  go_upto_region 1 with fail
  refine code_gen (R := fun wb => wb.cell? ⟨w.heap.size, 1, none⟩ = some (.slice a len cap) ∧ Below w.heap.size w wb) ⟨by simp, by go_grown⟩ ?_
  rintro w0 ⟨x1, hB0⟩
  have HB0 := Go.Lib.hid hB0
  have HN0 := Go.Lib.hid (HN.out.below (hB0.mono hBw))
  clear hB0
  go_wp2_with fail
  refine (c_szBddNodeS (B := B) 1048576 (by omega) (by omega) w0 HN0.out).mono ?_
  rintro e w1 ⟨r, rfl, hr1, hr, hq⟩
  have HE := Go.Lib.hid (HB0.out.trans (hq.mono HB0.out.size))
  have HR := Go.Lib.hid hr
  clear hq hr x1
  by_cases hn : r < 0
  · go_wp2_with fail
    go_ret
    exact ⟨_, rfl, by omega, HE.out⟩
  · go_wp2_with fail
    go_ret
    exact ⟨_, rfl, HR.out, HE.out⟩

theorem below_undrawnB {B : Nat} {w w' : World} (hs : B ≤ w.heap.size) (h : Below w.drew.heap.size w.drew w') : Below B w w' := Below.mono ⟨h.os, h.tape, h.output, h.size, h.block⟩ hs
theorem c_eqBddNode (x : BN) (w : World) :
    Calls Tryd.prog 73 #[.agg #[.int .i64 x.v, .int .i64 x.lo, .int .i64 x.hi], .agg #[.int .i64 x.v, .int .i64 x.lo, .int .i64 x.hi]] w fun e w' => e = .returned (.bool true) ∧ Below w.heap.size w w' := by
  obtain ⟨v, lo, hi⟩ := x
  go_enter Tryd.func73, Tryd.ntmps73
  go_wp2
  go_ret
  exact ⟨rfl, by go_grown⟩
set_option maxHeartbeats 4000000 in
theorem c_eqBddNodeS {B : Nat} {a a' : Option Addr} {len cap cap' : Nat} {ns : List BN} (w : World) (hB : B ≤ w.heap.size) (h : BnsAt B w a len cap ns) (h' : BnsAt B w a' len cap' ns) :
    Calls Tryd.prog 45 #[.slice a len cap, .slice a' len cap'] w fun e w' => e = .returned (.bool true) ∧ Below B w w' := by
  have hm : len ≤ maxLen := Nat.le_trans h.2.1 h.2.2.1
  unfold maxLen at hm
  have HN := Go.Lib.hid h
  have HN' := Go.Lib.hid h'
  have hlen : ns.length = len := h.1
  clear h h'
  go_enter Tryd.func45, Tryd.ntmps45
  go_wp2
  go_loopw [5] (fun i wr => ∃ k : Nat, k ≤ len ∧ i = .int .i64 k ∧ Below B w wr) (fun i _ => len - (intOf i).toNat)
  case atStart => exact ⟨0, by omega, rfl, Below.refl _ _⟩
  case round =>
    obtain ⟨k, hk, rfl, hBk⟩ := hrel
    by_cases hlt : k < len
    · have hki : (k : Int) < len := by omega
      have hsz : B ≤ wr.heap.size := Nat.le_trans hB hBk.size
      obtain ⟨bd, b, off, hbd, -, rfl, hbB, c0, c1, c2⟩ := bn_at (HN.out.below hBk) hlt
      obtain ⟨bd', b', off', hbd', -, rfl, hbB', d0, d1, d2⟩ := bn_at (HN'.out.below hBk) hlt
      obtain rfl : bd' = bd := by rw [hbd, hbd']
      have HB := Go.Lib.hid hBk
      clear hbd hbd' hBk
      go_wp2_with fail
      go_region_with (first | (go_at_call 73; refine (c_eqBddNode bd' _).mono ?_; rintro e w1 ⟨rfl, hB1⟩))
      all_goals
        have hB2 := Go.Lib.hid (HB.out.trans (below_undrawnB hsz hB1))
        clear c0 c1 c2 d0 d1 d2 hB1
        go_wp2
        go_roundw
        case rel => exact ⟨k + 1, by omega, by go_num, hB2.out⟩
        case measure => simp [intOf]; omega
    · have hki : ¬ (k : Int) < len := by omega
      go_wp2
      go_ret
      exact ⟨rfl, hBk⟩
set_option maxHeartbeats 8000000 in
theorem c_eqBdd {B : Nat} {a a' : Option Addr} {len cap cap' : Nat} {ns : List BN} (vars root : Int) (w : World) (hBw : B ≤ w.heap.size) (h : BnsAt B w a len cap ns) (h' : BnsAt B w a' len cap' ns) :
    Calls Tryd.prog 14 #[.agg #[.int .i64 vars, .slice a len cap, .int .i64 root], .agg #[.int .i64 vars, .slice a' len cap', .int .i64 root]] w fun e w' => e = .returned (.bool true) ∧ Below B w w' := by
  have HN := Go.Lib.hid h
  have HN' := Go.Lib.hid h'
  clear h h'
  go_enter Tryd.func14, Tryd.ntmps14
  go_upto_region 1 with fail
  refine code_gen (R := fun wb => wb.heap[w.heap.size]? = some (.cells #[.int .i64 vars, .slice a len cap, .int .i64 root] 24 (0, 0)) ∧ wb.heap[w.heap.size + 1]? = some (.cells #[.int .i64 vars, .slice a' len cap', .int .i64 root] 24 (0, 0)) ∧ Below w.heap.size w wb) ⟨?_, ?_, by go_grown⟩ ?_
  · rw [(MapKept.heap_alloc _ _).2 _ (alloc_ltS _ _)]; exact (MapKept.heap_alloc _ _).1
  · have e : w.heap.size + 1 = (w.alloc (.cells #[.int .i64 vars, .slice a len cap, .int .i64 root] 24)).heap.size := by show _ = (w.heap.push _).size; simp
    rw [e]; exact (MapKept.heap_alloc _ _).1
  rintro w0 ⟨k0, k1, hb0⟩
  have HB0 := Go.Lib.hid (hb0.mono hBw)
  have hB0 : B ≤ w0.heap.size := Nat.le_trans hBw hb0.size
  have HN0 := Go.Lib.hid (HN.out.below (hb0.mono hBw))
  have HN0' := Go.Lib.hid (HN'.out.below (hb0.mono hBw))
  have x0 := cell_of_block (i := 0) k0 (v := .int .i64 vars) rfl
  have x1 := cell_of_block (i := 1) k0 (v := .slice a len cap) rfl
  have y0 := cell_of_block (i := 0) k1 (v := .int .i64 vars) rfl
  have y1 := cell_of_block (i := 1) k1 (v := .slice a' len cap') rfl
  have HK0 := Go.Lib.hid k0
  have HK1 := Go.Lib.hid k1
  have hl1 : w.heap.size + 1 < w0.heap.size := (Array.getElem?_eq_some_iff.1 k1).1
  clear k0 k1 hb0
  go_wp2_with fail
  refine (c_eqBddNodeS (B := w0.heap.size) w0 (Nat.le_refl _) (HN0.out.mono hB0) (HN0'.out.mono hB0)).mono ?_
  rintro e w1 ⟨rfl, hq⟩
  have HE := Go.Lib.hid (HB0.out.trans (hq.mono hB0))
  clear x0 x1 y0 y1
  have x2 := cell_of_block (i := 2) ((hq.block _ (by omega)).trans HK0.out) (v := .int .i64 root) rfl
  have y2 := cell_of_block (i := 2) ((hq.block _ hl1).trans HK1.out) (v := .int .i64 root) rfl
  clear hq
  go_wp2_with fail
  go_ret
  exact ⟨rfl, HE.out⟩

section
variable {H : Type} {enc : TypeId × Value → H} {w : World}
theorem open_bn {base : Nat} {spare : Nat → Bool} {held : Bool} {fuel : Nat} {cs : List Value} {x : DataW H × List MemPlace} (h : DataW.trod enc Tryd.prog w base spare held fuel 89 cs = some x) : ∃ nd : BN, cs = nd.cells ∧ nd.ok := by
  obtain ⟨xs, n, _, rfl, hl, hlen, hf⟩ := DataW.trod_struct Tryd.underlying89 h
  have hc : Tryd.prog.cellsOf 89 = 3 := by kernel_rfl
  rw [hc] at hl
  have k1 : Tryd.prog.cellsOf 3 = 1 := by kernel_rfl
  match cs, hl, xs, hlen with
  | [c0, c1, c2], _, [y0, y1, y2], _ =>
    have f0 := hf 0 _ rfl
    have f1 := hf 1 _ rfl
    have f2 := hf 2 _ rfl
    simp [k1] at f0 f1 f2
    obtain ⟨v0, e0, _, o0⟩ := DataW.trod_int Tryd.underlying3 f0
    obtain ⟨v1, e1, _, o1⟩ := DataW.trod_int Tryd.underlying3 f1
    obtain ⟨v2, e2, _, o2⟩ := DataW.trod_int Tryd.underlying3 f2
    simp at e0 e1 e2
    subst e0 e1 e2
    exact ⟨⟨v0, v1, v2⟩, rfl, o0, o1, o2⟩
theorem open_bdd {v : Value} {d : DataW H} {p : List MemPlace} {b0 : Nat} (hv : Value.okWide Tryd.prog w .any b0 32 v) (h : DataW.Trod enc Tryd.prog w 0 (fun _ => true) true 32 v d p) :
    ∃ (vars : Int) (s : SL) (root : Int) (ns : List BN), v = .agg #[.int .i64 vars, .slice s.a s.len s.cap, .int .i64 root] ∧ BnsAt w.heap.size w s.a s.len s.cap ns ∧ fits vars ∧ fits root := by
  obtain ⟨cs, rfl, _⟩ := okWide_struct Tryd.underlying32 hv
  obtain ⟨fuel, h⟩ := h
  simp only [Value.cells] at h
  obtain ⟨xs, n, _, _, hl, hlen, hf⟩ := DataW.trod_struct Tryd.underlying32 h
  have hc : Tryd.prog.cellsOf 32 = 3 := by kernel_rfl
  rw [hc] at hl
  have k1 : Tryd.prog.cellsOf 30 = 1 := by kernel_rfl
  have k2 : Tryd.prog.cellsOf 3 = 1 := by kernel_rfl
  obtain ⟨cs⟩ := cs
  simp only at hl hf
  match cs, hl, xs, hlen with
  | [c0, c1, c2], _, [y0, y1, y2], _ =>
    have f0 := hf 0 _ rfl
    have f1 := hf 1 _ rfl
    have f2 := hf 2 _ rfl
    simp [k1, k2] at f0 f1 f2
    obtain ⟨v0, e0, _, o0⟩ := DataW.trod_int Tryd.underlying3 f0
    obtain ⟨s, ns, e1, r1⟩ := open_rows (cells := BN.cells) (ok := BN.ok) (c := 3) Tryd.underlying30 (by kernel_rfl) (fun h => open_bn h) (fun nd => ⟨_, rfl⟩) (by decide) f1
    obtain ⟨v2, e2, _, o2⟩ := DataW.trod_int Tryd.underlying3 f2
    simp at e0 e1 e2
    subst e0 e1 e2
    exact ⟨v0, s, v2, ns, rfl, r1, o0, o2⟩
end
end Go.Proofs.YtpehddfnlmkicaaDoor
