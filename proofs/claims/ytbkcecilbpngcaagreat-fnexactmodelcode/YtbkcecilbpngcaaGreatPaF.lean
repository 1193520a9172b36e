/-
  Parts: ModR, ModS, ModT.
-/
import Derived.Test.YtbkcecilbpngcaaGreatRows
import Derived.Test.YtbkcecilbpngcaaGreatG0
import Derived.Test.YtbkcecilbpngcaaGreatPaA
import Derived.Test.YtbkcecilbpngcaaGreatNodeL
import Derived.Test.YtbkcecilbpngcaaGreatPaG
import Derived.Test.YtbkcecilbpngcaaGreatResP
import Derived.Test.YtbkcecilbpngcaaGreatModD
import Derived.Test.YtbkcecilbpngcaaGreatModA
import Derived.Test.YtbkcecilbpngcaaGreatModB
import Derived.Test.YtbkcecilbpngcaaGreatModE
import Derived.WalkKit
import Derived.ProofKit
import Derived.OpenShut
import Derived.WalkSpells
import Derived.WalkLawsBesides
import Derived.Outline
import Derived.BigQuiet
import Derived.Handy
import Derived.LoopTactic
import Derived.Deep.Light
import Derived.Deep.MidRow
import Derived.Deep.DeepCutAuto
import Derived.OwnWalk
import Derived.Laws.OwnMore
import Derived.Lib.Hide
import Derived.Deep.RegionWith
import Derived.Deep.RegionHeld3
namespace Go.Proofs.YtbkcecilbpngcaaGreat
open Go.ChangeShapes Go.WideShapes Go.ChangeAt Go.RowKit
set_option linter.unusedVariables false
set_option maxRecDepth 100000

theorem bindInfo : (Tryz.prog.info? 78).map (fun i => (i.zero, i.size, i.bytes)) = some (some (.agg #[.int .i64 0, .int .i64 0]), 2, 16) := by kernel_rfl
theorem bd_store (x : BD) {w : World} {b len j : Nat} (h : w.there b 0 (len * 2)) (hj : j < len) : (storeCells ⟨b, j * 2, none⟩ x.cells).run Tryz.prog w = .ok () (w.setCells b (j * 2) x.cells) := by
  have := run_storeCells_cells (P := Tryz.prog) b (j * 2) x.cells 0 w (fun q hq => by have hq' : q < 2 := hq; have := (h (j * 2 + q) (by omega)).1; simpa using this) (fun q hq => by have hq' : q < 2 := hq; have := (h (j * 2 + q) (by omega)).2; simpa using this)
    (fun v hv => by simp [BD.cells] at hv; rcases hv with rfl | rfl <;> rfl)
  simpa using this
theorem c_toBind (x : BD) (w : World) :
    Calls Tryz.prog 65 #[.agg x.cells.toArray] w fun e w' => e = .returned (.agg x.cells.toArray) ∧ Below w.heap.size w w' := by
  obtain ⟨st, nd⟩ := x
  simp only [BD.cells]
  go_enter Tryz.func65, Tryz.ntmps65
  go_wp2
  exact bodyPost_ret (v := .agg #[.int .i64 st, .int .i64 nd]) (results_cell_row rfl _ _ (w.heap.size + 1) 78 #[.int .i64 st, .int .i64 nd] (0, 0) _ rfl (heap_alloc2_at _ _ _ _) Tryz.underlying78 rfl (by kernel_rfl)) rfl ⟨rfl, by go_grown⟩
set_option maxHeartbeats 4000000 in
theorem c_toBindS {B : Nat} {a : Option Addr} {len cap : Nat} {ns : List BD} (w : World) (hBw : B ≤ w.heap.size) (h : BindsAt B w a len cap ns) (hlen : len ≤ 1048576) :
    Calls Tryz.prog 29 #[.slice a len cap] w (CopyP BD.cells BD.ok 2 ns len w) := by
  have HN := Go.Lib.hid h
  have hnl : ns.length = len := h.1
  have HNL := Go.Lib.hid hnl
  clear h hnl
  obtain ⟨i0, hi0, hz0, hz1, hz2⟩ := info_parts bindInfo
  obtain ⟨w0, hrun, hown, hgrow⟩ := run_make_full (P := Tryz.prog) w w.heap.size 30 78 i0 _ 2 Tryz.underlying30 hi0 hz0 hz1 .i64 .i64 len (by rw [hz2]; omega) (by unfold maxLen; omega) (Nat.le_refl _)
  have hlt0 : w.heap.size < w0.heap.size := by
    rcases hown.2 with ⟨h', _⟩ | ⟨g', cap', cur, h', _, hg, _⟩
    · simp at h'
    · simp only [Value.slice.injEq, Option.some.injEq, Addr.mk.injEq, and_true, true_and] at h'
      obtain ⟨rfl, rfl⟩ := h'
      rcases Nat.lt_or_ge w.heap.size w0.heap.size with h | h
      · exact h
      · rw [Array.getElem?_eq_none h] at hg; cases hg
  have HT0 := Go.Lib.hid (show w0.there w.heap.size 0 (len * 2) from fun j hj => ⟨by
      rw [Nat.zero_add, hown.cellAt j (by omega)]
      have hl := hown.1
      rw [List.getElem?_eq_getElem (by omega)]; rfl, by rw [Nat.zero_add]; exact hown.frozenAt j⟩)
  have HB0 := Go.Lib.hid ((Below.refl w.heap.size w).grown hgrow (Nat.le_refl _) (by simp))
  clear hi0 hz0 hz1 hz2 hown hgrow
  go_enter Tryz.func29, Tryz.ntmps29
  go_wp2
  clear hrun
  go_loopw [4] (fun i wr => CopiedR BD.cells 2 ns len w i wr) (fun i _ => len - (intOf i).toNat)
  case atStart => exact ⟨0, by omega, rfl, hlt0, HT0.out, fun t _ h => by omega, HB0.out⟩
  case round =>
    obtain ⟨j, hj, rfl, hlt, hth, hcp, hBr⟩ := hrel
    have HTH := Go.Lib.hid hth
    have HCP := Go.Lib.hid hcp
    have HBr := Go.Lib.hid hBr
    clear hth hcp hBr HT0 HB0 hlt0
    by_cases hjl : j < len
    · have hki : (j : Int) < len := by omega
      have hjn : j < ns.length := by have := HNL.out; omega
      obtain ⟨bd, b, off, hbd, -, rfl, hbB, c0, c1⟩ := bind_at (HN.out.below (HBr.out.mono hBw)) hjl
      have HND := Go.Lib.hid (show bd = ns[j] by rw [hbd]; simp [List.getD, hjn])
      clear hbd
      go_wp2_with fail
      refine (c_toBind bd _).mono ?_
      rintro e w1 ⟨rfl, hB1⟩
      have HT1 := Go.Lib.hid (there_below HTH.out hB1 hlt)
      have HB1 := Go.Lib.hid (HBr.out.trans (hB1.mono HBr.out.size))
      have hl1 : w.heap.size < w1.heap.size := Nat.lt_of_lt_of_le hlt hB1.size
      have HC1 := Go.Lib.hid (show ∀ t (h : t < ns.length), t < j → ∀ c, c < 2 → w1.cell? ⟨w.heap.size, t * 2 + c, none⟩ = (ns[t]).cells[c]? from fun t h htj c hc => (hB1.cell (p := ⟨w.heap.size, t * 2 + c, none⟩) hlt).trans (HCP.out t h htj c hc))
      clear hB1 c0 c1
      have hst := bd_store bd HT1.out hjl
      go_wp2
      go_roundw
      case rel => exact copiedR_next (cells := BD.cells) (c := 2) (fun _ => rfl) hjl hjn hl1 HT1.out HC1.out HB1.out HND.out
      case measure => simp [intOf]; omega
    · have hki : ¬ (j : Int) < len := by omega
      obtain rfl : j = len := by omega
      go_wp2
      go_ret
      obtain ⟨h1, -, -, h4, -, -⟩ := HN.out
      exact ⟨rfl, ⟨h1, Nat.le_refl _, by unfold maxLen; omega, h4, fun e => by simp at e, .inr ⟨w.heap.size, 0, rfl, hlt, fun i hi q hq => by rw [Nat.zero_add]; exact HCP.out i hi (by omega) q hq⟩⟩, ⟨hlt, HTH.out⟩, HBr.out⟩

def nil5 : Array Value := #[.slice none 0 0, .slice none 0 0, .slice none 0 0, .slice none 0 0, .slice none 0 0]
/-- The blocks of a copy under way: the argument's box, the result, the copy. -/
structure TM (A X : Array Value) (w wb : World) : Prop where
  b1 : wb.heap[w.heap.size]? = some (.cells A 26 (0, 0))
  b2 : wb.heap[w.heap.size + 1]? = some (.cells nil5 32 (0, 0))
  b3 : wb.heap[w.heap.size + 2]? = some (.cells X 32 (0, 0))
  B : Below w.heap.size w wb
theorem TM.lt {A X : Array Value} {w wb : World} (h : TM A X w wb) : w.heap.size + 2 < wb.heap.size := (Array.getElem?_eq_some_iff.1 h.b3).1
theorem TM.below {A X : Array Value} {w wb w' : World} (h : TM A X w wb) (hb : Below wb.heap.size wb w') : TM A X w w' :=
  have hl := h.lt
  ⟨(hb.block _ (by omega)).trans h.b1, (hb.block _ (by omega)).trans h.b2, (hb.block _ hl).trans h.b3, h.B.trans (hb.mono h.B.size)⟩
theorem TM.put {A X : Array Value} {w wb : World} (h : TM A X w wb) (i : Nat) (v : Value) : TM A (X.setIfInBounds i v) w (wb.setCell ⟨w.heap.size + 2, i, none⟩ v) :=
  ⟨(heap_setCell_other _ _ _ _ (by simp)).trans h.b1, (heap_setCell_other _ _ _ _ (by simp)).trans h.b2, heap_setCell_same _ _ _ _ _ _ h.b3, h.B.setCell (by simp) v⟩
theorem TM.start (A : Array Value) (w : World) : TM A nil5 w (((w.alloc (.cells A 26)).alloc (.cells nil5 32)).alloc (.cells nil5 32)) := by
  refine ⟨?_, heap_alloc2_at _ _ _ _, ?_, by go_grown⟩
  · rw [(MapKept.heap_alloc _ _).2 _ (Nat.lt_of_lt_of_le (alloc_ltS _ _) (Nat.le_of_lt (alloc_ltS _ _))), (MapKept.heap_alloc _ _).2 _ (alloc_ltS _ _)]
    exact (MapKept.heap_alloc _ _).1
  · have e : w.heap.size + 2 = ((w.alloc (.cells A 26)).alloc (.cells nil5 32)).heap.size := by show _ = ((w.heap.push _).push _).size; simp
    rw [e]
    exact (MapKept.heap_alloc _ _).1
/-- A copy of a model: its lists lie in new blocks that can be written. -/
def CopyM (M : MD) (l0 l1 l2 l3 l4 : Nat) (w : World) (e : Ending) (w' : World) : Prop :=
  ∃ g0 g1 g2 g3 g4, e = .returned (.agg (mcells (slOf g0 l0) (slOf g1 l1) (slOf g2 l2) (slOf g3 l3) (slOf g4 l4)).toArray) ∧ ModelAt w'.heap.size w' (slOf g0 l0) (slOf g1 l1) (slOf g2 l2) (slOf g3 l3) (slOf g4 l4) M ∧
    (w.heap.size ≤ g0 ∧ w.heap.size ≤ g1 ∧ w.heap.size ≤ g2 ∧ w.heap.size ≤ g3 ∧ w.heap.size ≤ g4) ∧ (Room w' g0 (l0 * 9) ∧ Room w' g1 (l1 * 2) ∧ Room w' g2 (l2 * 2) ∧ Room w' g3 (l3 * 1) ∧ Room w' g4 (l4 * 1)) ∧ Below w.heap.size w w'
end Go.Proofs.YtbkcecilbpngcaaGreat

/-! Copies of models, their sizes, and whether two are alike. -/
namespace Go.Proofs.YtbkcecilbpngcaaGreat
open Go.ChangeShapes Go.WideShapes Go.ChangeAt Go.RowKit
set_option linter.unusedVariables false
set_option maxRecDepth 100000


/-- All that lay there is as it was, but for two blocks. -/
def Kp (n : Nat) (wa wb : World) : Prop := wa.heap.size ≤ wb.heap.size ∧ ∀ g, g < wa.heap.size → g ≠ n + 1 → g ≠ n + 2 → wb.heap[g]? = wa.heap[g]?
theorem Kp.refl (n : Nat) (w : World) : Kp n w w := ⟨Nat.le_refl _, fun _ _ _ _ => rfl⟩
theorem Kp.below {n : Nat} {wa wb : World} (h : Below wa.heap.size wa wb) : Kp n wa wb := ⟨h.size, fun g hg _ _ => h.block g hg⟩
theorem Kp.trans {n : Nat} {a b c : World} (h : Kp n a b) (k : Kp n b c) : Kp n a c := ⟨Nat.le_trans h.1 k.1, fun g hg h1 h2 => (k.2 g (Nat.lt_of_lt_of_le hg h.1) h1 h2).trans (h.2 g hg h1 h2)⟩
theorem Kp.set2 {n : Nat} {a b : World} (h : Kp n a b) (i : Nat) (v : Value) : Kp n a (b.setCell ⟨n + 2, i, none⟩ v) := ⟨by simpa using h.1, fun g hg h1 h2 => (heap_setCell_other _ _ _ _ h2).trans (h.2 g hg h1 h2)⟩
theorem Kp.set1 {n : Nat} {a b : World} (h : Kp n a b) (i : Nat) (v : Value) : Kp n a (b.setCell ⟨n + 1, i, none⟩ v) := ⟨by simpa using h.1, fun g hg h1 h2 => (heap_setCell_other _ _ _ _ h1).trans (h.2 g hg h1 h2)⟩
theorem RowsAt.kp {α : Type} {cells : α → List Value} {ok : α → Prop} {c n : Nat} {wa wb : World} {g len cap : Nat} {ns : List α} (h : RowsAt cells ok c wa.heap.size wa (some ⟨g, 0, none⟩) len cap ns) (hk : Kp n wa wb) (hg : n + 2 < g) : RowsAt cells ok c wb.heap.size wb (some ⟨g, 0, none⟩) len cap ns := by
  obtain ⟨h1, h2, h3, h4, h5, h6⟩ := h
  refine ⟨h1, h2, h3, h4, h5, ?_⟩
  rcases h6 with h6 | ⟨b, off, e, hlt, hc⟩
  · exact .inl h6
  · simp only [Option.some.injEq, Addr.mk.injEq, and_true] at e
    obtain ⟨rfl, rfl⟩ := e
    have e1 := hk.2 g hlt (by omega) (by omega)
    exact .inr ⟨g, 0, rfl, Nat.lt_of_lt_of_le hlt hk.1, fun i hi j hj => (World.cell?_of_block (w := wa) (w' := wb) (a := ⟨g, 0 + i * c + j, none⟩) e1).trans (hc i hi j hj)⟩
theorem Room.kp {n : Nat} {wa wb : World} {g m : Nat} (h : Room wa g m) (hk : Kp n wa wb) (hg : n + 2 < g) : Room wb g m := by
  have e := hk.2 g h.1 (by omega) (by omega)
  refine ⟨Nat.lt_of_lt_of_le h.1 hk.1, fun j hj => ?_⟩
  rw [World.cell?_of_block (w := wa) (w' := wb) (a := ⟨g, 0 + j, none⟩) e, World.frozen?_of_block (w := wa) (w' := wb) (a := ⟨g, 0 + j, none⟩) e]
  exact h.2 j hj

set_option maxHeartbeats 8000000 in
theorem c_toModel {B : Nat} {s0 s1 s2 s3 s4 : SL} {M : MD} (w : World) (hBw : B ≤ w.heap.size) (h : ModelAt B w s0 s1 s2 s3 s4 M) (k0 : s0.len ≤ 1048576) (k1 : s1.len ≤ 1048576) (k2 : s2.len ≤ 1048576) (k3 : s3.len ≤ 1048576) (k4 : s4.len ≤ 1048576) :
    Calls Tryz.prog 8 #[.agg (mcells s0 s1 s2 s3 s4).toArray] w (CopyM M s0.len s1.len s2.len s3.len s4.len w) := by
  have HMA := Go.Lib.hid h
  clear h
  simp only [mcells]
  go_enter Tryz.func8, Tryz.ntmps8
  go_upto_region 2 with fail
  refine code_gen (R := fun wb => TM #[.slice s0.a s0.len s0.cap, .slice s1.a s1.len s1.cap, .slice s2.a s2.len s2.cap, .slice s3.a s3.len s3.cap, .slice s4.a s4.len s4.cap] #[.slice none 0 0, .slice none 0 0, .slice none 0 0, .slice none 0 0, .slice none 0 0] w wb) (TM.start _ _) ?_
  intro w0 ht
  have HT0 := Go.Lib.hid ht
  clear ht
  have x := cell_of_block (i := 0) HT0.out.b1 (v := .slice s0.a s0.len s0.cap) rfl
  go_wp2_with fail
  refine (c_toNodeSt (B := B) w0 (Nat.le_trans hBw HT0.out.B.size) ((HMA.out.below (HT0.out.B.mono hBw)).ns) k0).mono ?_
  rintro e v0 ⟨rfl, hr, hth, hB1⟩
  have HU := Go.Lib.hid (HT0.out.below hB1)
  have HK0 := Go.Lib.hid (Kp.below (n := w.heap.size) hB1)
  have HR0 := Go.Lib.hid hr
  have HH0 := Go.Lib.hid hth
  have HG0 := Go.Lib.hid (show w.heap.size + 2 < w0.heap.size from HT0.out.lt)
  clear hr hth hB1 x
  have y := cell_of_block (i := 0) HU.out.b3 (v := .slice none 0 0) rfl
  have f := free_of_block (i := 0) HU.out.b3
  go_upto_region 3 with fail
  refine code_gen (R := fun wb => TM #[.slice s0.a s0.len s0.cap, .slice s1.a s1.len s1.cap, .slice s2.a s2.len s2.cap, .slice s3.a s3.len s3.cap, .slice s4.a s4.len s4.cap] #[.slice (some ⟨w0.heap.size, 0, none⟩) s0.len s0.len, .slice none 0 0, .slice none 0 0, .slice none 0 0, .slice none 0 0] w wb ∧ Kp w.heap.size v0 wb) ⟨HU.out.put 0 _, (Kp.refl _ _).set2 _ _⟩ ?_
  rintro w1 ⟨ht, hk⟩
  have HT1 := Go.Lib.hid ht
  have HQ0 := Go.Lib.hid hk
  clear ht hk y f HU
  have x := cell_of_block (i := 1) HT1.out.b1 (v := .slice s1.a s1.len s1.cap) rfl
  go_wp2_with fail
  refine (c_toBindS (B := B) w1 (Nat.le_trans hBw HT1.out.B.size) ((HMA.out.below (HT1.out.B.mono hBw)).is) k1).mono ?_
  rintro e v1 ⟨rfl, hr, hth, hB1⟩
  have HU := Go.Lib.hid (HT1.out.below hB1)
  have HK1 := Go.Lib.hid (Kp.below (n := w.heap.size) hB1)
  have HR1 := Go.Lib.hid hr
  have HH1 := Go.Lib.hid hth
  have HG1 := Go.Lib.hid (show w.heap.size + 2 < w1.heap.size from HT1.out.lt)
  clear hr hth hB1 x
  have y := cell_of_block (i := 1) HU.out.b3 (v := .slice none 0 0) rfl
  have f := free_of_block (i := 1) HU.out.b3
  go_upto_region 4 with fail
  refine code_gen (R := fun wb => TM #[.slice s0.a s0.len s0.cap, .slice s1.a s1.len s1.cap, .slice s2.a s2.len s2.cap, .slice s3.a s3.len s3.cap, .slice s4.a s4.len s4.cap] #[.slice (some ⟨w0.heap.size, 0, none⟩) s0.len s0.len, .slice (some ⟨w1.heap.size, 0, none⟩) s1.len s1.len, .slice none 0 0, .slice none 0 0, .slice none 0 0] w wb ∧ Kp w.heap.size v1 wb) ⟨HU.out.put 1 _, (Kp.refl _ _).set2 _ _⟩ ?_
  rintro w2 ⟨ht, hk⟩
  have HT2 := Go.Lib.hid ht
  have HQ1 := Go.Lib.hid hk
  clear ht hk y f HU
  have x := cell_of_block (i := 2) HT2.out.b1 (v := .slice s2.a s2.len s2.cap) rfl
  go_wp2_with fail
  refine (c_toBindS (B := B) w2 (Nat.le_trans hBw HT2.out.B.size) ((HMA.out.below (HT2.out.B.mono hBw)).xs) k2).mono ?_
  rintro e v2 ⟨rfl, hr, hth, hB1⟩
  have HU := Go.Lib.hid (HT2.out.below hB1)
  have HK2 := Go.Lib.hid (Kp.below (n := w.heap.size) hB1)
  have HR2 := Go.Lib.hid hr
  have HH2 := Go.Lib.hid hth
  have HG2 := Go.Lib.hid (show w.heap.size + 2 < w2.heap.size from HT2.out.lt)
  clear hr hth hB1 x
  have y := cell_of_block (i := 2) HU.out.b3 (v := .slice none 0 0) rfl
  have f := free_of_block (i := 2) HU.out.b3
  go_upto_region 5 with fail
  refine code_gen (R := fun wb => TM #[.slice s0.a s0.len s0.cap, .slice s1.a s1.len s1.cap, .slice s2.a s2.len s2.cap, .slice s3.a s3.len s3.cap, .slice s4.a s4.len s4.cap] #[.slice (some ⟨w0.heap.size, 0, none⟩) s0.len s0.len, .slice (some ⟨w1.heap.size, 0, none⟩) s1.len s1.len, .slice (some ⟨w2.heap.size, 0, none⟩) s2.len s2.len, .slice none 0 0, .slice none 0 0] w wb ∧ Kp w.heap.size v2 wb) ⟨HU.out.put 2 _, (Kp.refl _ _).set2 _ _⟩ ?_
  rintro w3 ⟨ht, hk⟩
  have HT3 := Go.Lib.hid ht
  have HQ2 := Go.Lib.hid hk
  clear ht hk y f HU
  have x := cell_of_block (i := 3) HT3.out.b1 (v := .slice s3.a s3.len s3.cap) rfl
  go_wp2_with fail
  refine (c_toIntS (B := B) w3 (Nat.le_trans hBw HT3.out.B.size) ((HMA.out.below (HT3.out.B.mono hBw)).bads) k3).mono ?_
  rintro e v3 ⟨rfl, hr, hth, hB1⟩
  have HU := Go.Lib.hid (HT3.out.below hB1)
  have HK3 := Go.Lib.hid (Kp.below (n := w.heap.size) hB1)
  have HR3 := Go.Lib.hid hr
  have HH3 := Go.Lib.hid hth
  have HG3 := Go.Lib.hid (show w.heap.size + 2 < w3.heap.size from HT3.out.lt)
  clear hr hth hB1 x
  have y := cell_of_block (i := 3) HU.out.b3 (v := .slice none 0 0) rfl
  have f := free_of_block (i := 3) HU.out.b3
  go_upto_region 6 with fail
  refine code_gen (R := fun wb => TM #[.slice s0.a s0.len s0.cap, .slice s1.a s1.len s1.cap, .slice s2.a s2.len s2.cap, .slice s3.a s3.len s3.cap, .slice s4.a s4.len s4.cap] #[.slice (some ⟨w0.heap.size, 0, none⟩) s0.len s0.len, .slice (some ⟨w1.heap.size, 0, none⟩) s1.len s1.len, .slice (some ⟨w2.heap.size, 0, none⟩) s2.len s2.len, .slice (some ⟨w3.heap.size, 0, none⟩) s3.len s3.len, .slice none 0 0] w wb ∧ Kp w.heap.size v3 wb) ⟨HU.out.put 3 _, (Kp.refl _ _).set2 _ _⟩ ?_
  rintro w4 ⟨ht, hk⟩
  have HT4 := Go.Lib.hid ht
  have HQ3 := Go.Lib.hid hk
  clear ht hk y f HU
  have x := cell_of_block (i := 4) HT4.out.b1 (v := .slice s4.a s4.len s4.cap) rfl
  go_wp2_with fail
  refine (c_toIntS (B := B) w4 (Nat.le_trans hBw HT4.out.B.size) ((HMA.out.below (HT4.out.B.mono hBw)).holds) k4).mono ?_
  rintro e v4 ⟨rfl, hr, hth, hB1⟩
  have HU := Go.Lib.hid (HT4.out.below hB1)
  have HK4 := Go.Lib.hid (Kp.below (n := w.heap.size) hB1)
  have HR4 := Go.Lib.hid hr
  have HH4 := Go.Lib.hid hth
  have HG4 := Go.Lib.hid (show w.heap.size + 2 < w4.heap.size from HT4.out.lt)
  clear hr hth hB1 x
  have y := cell_of_block (i := 4) HU.out.b3 (v := .slice none 0 0) rfl
  have f := free_of_block (i := 4) HU.out.b3
  go_upto_region 7 with fail
  refine code_gen (R := fun wb => TM #[.slice s0.a s0.len s0.cap, .slice s1.a s1.len s1.cap, .slice s2.a s2.len s2.cap, .slice s3.a s3.len s3.cap, .slice s4.a s4.len s4.cap] #[.slice (some ⟨w0.heap.size, 0, none⟩) s0.len s0.len, .slice (some ⟨w1.heap.size, 0, none⟩) s1.len s1.len, .slice (some ⟨w2.heap.size, 0, none⟩) s2.len s2.len, .slice (some ⟨w3.heap.size, 0, none⟩) s3.len s3.len, .slice (some ⟨w4.heap.size, 0, none⟩) s4.len s4.len] w wb ∧ Kp w.heap.size v4 wb) ⟨HU.out.put 4 _, (Kp.refl _ _).set2 _ _⟩ ?_
  rintro w5 ⟨ht, hk⟩
  have HT5 := Go.Lib.hid ht
  have HQ4 := Go.Lib.hid hk
  clear ht hk y f HU
  have y0 := cell_of_block (i := 0) HT5.out.b3 (v := .slice (some ⟨w0.heap.size, 0, none⟩) s0.len s0.len) rfl
  have z0 := cell_of_block (i := 0) HT5.out.b2 (v := .slice none 0 0) rfl
  have f0 := free_of_block (i := 0) HT5.out.b2
  have y1 := cell_of_block (i := 1) HT5.out.b3 (v := .slice (some ⟨w1.heap.size, 0, none⟩) s1.len s1.len) rfl
  have z1 := cell_of_block (i := 1) HT5.out.b2 (v := .slice none 0 0) rfl
  have f1 := free_of_block (i := 1) HT5.out.b2
  have y2 := cell_of_block (i := 2) HT5.out.b3 (v := .slice (some ⟨w2.heap.size, 0, none⟩) s2.len s2.len) rfl
  have z2 := cell_of_block (i := 2) HT5.out.b2 (v := .slice none 0 0) rfl
  have f2 := free_of_block (i := 2) HT5.out.b2
  have y3 := cell_of_block (i := 3) HT5.out.b3 (v := .slice (some ⟨w3.heap.size, 0, none⟩) s3.len s3.len) rfl
  have z3 := cell_of_block (i := 3) HT5.out.b2 (v := .slice none 0 0) rfl
  have f3 := free_of_block (i := 3) HT5.out.b2
  have y4 := cell_of_block (i := 4) HT5.out.b3 (v := .slice (some ⟨w4.heap.size, 0, none⟩) s4.len s4.len) rfl
  have z4 := cell_of_block (i := 4) HT5.out.b2 (v := .slice none 0 0) rfl
  have f4 := free_of_block (i := 4) HT5.out.b2
  go_wp2
  have HE := Go.Lib.hid (show Kp w.heap.size w5 (((((w5.setCell ⟨w.heap.size + 1, 0, none⟩ (.slice (some ⟨w0.heap.size, 0, none⟩) s0.len s0.len)).setCell ⟨w.heap.size + 1, 1, none⟩ (.slice (some ⟨w1.heap.size, 0, none⟩) s1.len s1.len)).setCell ⟨w.heap.size + 1, 2, none⟩ (.slice (some ⟨w2.heap.size, 0, none⟩) s2.len s2.len)).setCell ⟨w.heap.size + 1, 3, none⟩ (.slice (some ⟨w3.heap.size, 0, none⟩) s3.len s3.len)).setCell ⟨w.heap.size + 1, 4, none⟩ (.slice (some ⟨w4.heap.size, 0, none⟩) s4.len s4.len)) from ((((((Kp.refl _ _).set1 _ _).set1 _ _).set1 _ _).set1 _ _).set1 _ _))
  have E0 := ((((HQ0.out.trans (HK1.out.trans HQ1.out)).trans (HK2.out.trans HQ2.out)).trans (HK3.out.trans HQ3.out)).trans (HK4.out.trans HQ4.out)).trans HE.out
  have E1 := (((HQ1.out.trans (HK2.out.trans HQ2.out)).trans (HK3.out.trans HQ3.out)).trans (HK4.out.trans HQ4.out)).trans HE.out
  have E2 := ((HQ2.out.trans (HK3.out.trans HQ3.out)).trans (HK4.out.trans HQ4.out)).trans HE.out
  have E3 := (HQ3.out.trans (HK4.out.trans HQ4.out)).trans HE.out
  have E4 := HQ4.out.trans HE.out
  have HB := Go.Lib.hid (show Below w.heap.size w (((((w5.setCell ⟨w.heap.size + 1, 0, none⟩ (.slice (some ⟨w0.heap.size, 0, none⟩) s0.len s0.len)).setCell ⟨w.heap.size + 1, 1, none⟩ (.slice (some ⟨w1.heap.size, 0, none⟩) s1.len s1.len)).setCell ⟨w.heap.size + 1, 2, none⟩ (.slice (some ⟨w2.heap.size, 0, none⟩) s2.len s2.len)).setCell ⟨w.heap.size + 1, 3, none⟩ (.slice (some ⟨w3.heap.size, 0, none⟩) s3.len s3.len)).setCell ⟨w.heap.size + 1, 4, none⟩ (.slice (some ⟨w4.heap.size, 0, none⟩) s4.len s4.len)) from (((((HT5.out.B.setCell (Nat.le_succ _) _).setCell (Nat.le_succ _) _).setCell (Nat.le_succ _) _).setCell (Nat.le_succ _) _).setCell (Nat.le_succ _) _))
  exact bodyPost_ret (v := .agg _) (results_cell_row rfl _ _ (w.heap.size + 1) 32 _ (0, 0) _ rfl (heap_setCell_same _ _ 4 _ _ (.slice (some ⟨w4.heap.size, 0, none⟩) s4.len s4.len) (heap_setCell_same _ _ 3 _ _ (.slice (some ⟨w3.heap.size, 0, none⟩) s3.len s3.len) (heap_setCell_same _ _ 2 _ _ (.slice (some ⟨w2.heap.size, 0, none⟩) s2.len s2.len) (heap_setCell_same _ _ 1 _ _ (.slice (some ⟨w1.heap.size, 0, none⟩) s1.len s1.len) (heap_setCell_same _ _ 0 _ _ (.slice (some ⟨w0.heap.size, 0, none⟩) s0.len s0.len) HT5.out.b2))))) Tryz.underlying32 rfl (by kernel_rfl)) rfl
    ⟨w0.heap.size, w1.heap.size, w2.heap.size, w3.heap.size, w4.heap.size, rfl, ⟨RowsAt.kp (cells := ND.cells) (ok := ND.ok) (c := 9) HR0.out E0 HG0.out, RowsAt.kp (cells := BD.cells) (ok := BD.ok) (c := 2) HR1.out E1 HG1.out, RowsAt.kp (cells := BD.cells) (ok := BD.ok) (c := 2) HR2.out E2 HG2.out, RowsAt.kp (cells := intCells) (ok := fits) (c := 1) HR3.out E3 HG3.out, RowsAt.kp (cells := intCells) (ok := fits) (c := 1) HR4.out E4 HG4.out⟩, ⟨Nat.le_of_lt (Nat.lt_of_le_of_lt (Nat.le_add_right _ 2) HG0.out), Nat.le_of_lt (Nat.lt_of_le_of_lt (Nat.le_add_right _ 2) HG1.out), Nat.le_of_lt (Nat.lt_of_le_of_lt (Nat.le_add_right _ 2) HG2.out), Nat.le_of_lt (Nat.lt_of_le_of_lt (Nat.le_add_right _ 2) HG3.out), Nat.le_of_lt (Nat.lt_of_le_of_lt (Nat.le_add_right _ 2) HG4.out)⟩, ⟨HH0.out.kp E0 HG0.out, HH1.out.kp E1 HG1.out, HH2.out.kp E2 HG2.out, HH3.out.kp E3 HG3.out, HH4.out.kp E4 HG4.out⟩, HB.out⟩
end Go.Proofs.YtbkcecilbpngcaaGreat

/-! Sizes of models, and whether two are alike. -/
namespace Go.Proofs.YtbkcecilbpngcaaGreat
open Go.ChangeShapes Go.WideShapes Go.ChangeAt Go.RowKit
set_option linter.unusedVariables false
set_option maxRecDepth 100000


def SzP (len : Nat) (left : Int) (w : World) (e : Ending) (w' : World) : Prop := ∃ r, e = .returned (.int .i64 r) ∧ -1 ≤ r ∧ r ≤ left ∧ (0 ≤ r → (len : Int) ≤ left) ∧ Below w.heap.size w w'
theorem below_up {B : Nat} {w w' : World} (h : Below B w w') (hB : B ≤ w.heap.size) : w.heap.size ≤ w'.heap.size := h.size

theorem c_szNodeSP {B : Nat} {a : Option Addr} {len cap : Nat} {ns : List ND} (left : Int) (hl0 : 0 ≤ left) (hl1 : left ≤ 1048576) (w : World) (hB : B ≤ w.heap.size) (h : NodesAt B w a len cap ns) :
    Calls Tryz.prog 20 #[.slice a len cap, .int .i64 left] w (SzP len left w) := by
  refine (c_szNodeS (B := w.heap.size) left hl0 hl1 w (Nat.le_refl _) (h.rows.mono hB).nodes).mono ?_
  rintro e w' ⟨⟨r, h1, h2, h3, h4⟩, h5⟩
  exact ⟨r, h1, h2, h3, h4, h5⟩
theorem c_eqBind (x : BD) (w : World) :
    Calls Tryz.prog 74 #[.agg #[.int .i64 x.st, .int .i64 x.nd], .agg #[.int .i64 x.st, .int .i64 x.nd]] w fun e w' => e = .returned (.bool true) ∧ Below w.heap.size w w' := by
  obtain ⟨st, nd⟩ := x
  go_enter Tryz.func74, Tryz.ntmps74
  go_wp2
  go_ret
  exact ⟨rfl, by go_grown⟩
set_option maxHeartbeats 4000000 in
theorem c_eqBindS {B : Nat} {a a' : Option Addr} {len cap cap' : Nat} {ns : List BD} (w : World) (hB : B ≤ w.heap.size) (h : BindsAt B w a len cap ns) (h' : BindsAt B w a' len cap' ns) :
    Calls Tryz.prog 40 #[.slice a len cap, .slice a' len cap'] w fun e w' => e = .returned (.bool true) ∧ Below B w w' := by
  have hm : len ≤ maxLen := Nat.le_trans h.2.1 h.2.2.1
  unfold maxLen at hm
  have HN := Go.Lib.hid h
  have HN' := Go.Lib.hid h'
  have hlen : ns.length = len := h.1
  clear h h'
  go_enter Tryz.func40, Tryz.ntmps40
  go_wp2
  go_loopw [5] (fun i wr => ∃ k : Nat, k ≤ len ∧ i = .int .i64 k ∧ Below B w wr) (fun i _ => len - (intOf i).toNat)
  case atStart => exact ⟨0, by omega, rfl, Below.refl _ _⟩
  case round =>
    obtain ⟨k, hk, rfl, hBk⟩ := hrel
    by_cases hlt : k < len
    · have hki : (k : Int) < len := by omega
      have hsz : B ≤ wr.heap.size := Nat.le_trans hB hBk.size
      obtain ⟨bd, b, off, hbd, -, rfl, hbB, c0, c1⟩ := bind_at (HN.out.below hBk) hlt
      obtain ⟨bd', b', off', hbd', -, rfl, hbB', d0, d1⟩ := bind_at (HN'.out.below hBk) hlt
      obtain rfl : bd' = bd := by rw [hbd, hbd']
      have HB := Go.Lib.hid hBk
      clear hbd hbd' hBk
      go_wp2_with fail
      go_region_with (first | (go_at_call 74; refine (c_eqBind bd' _).mono ?_; rintro e w1 ⟨rfl, hB1⟩))
      all_goals
        have hB2 := Go.Lib.hid (HB.out.trans (below_undrawn hsz hB1))
        clear c0 c1 d0 d1 hB1
        go_wp2
        go_roundw
        case rel => exact ⟨k + 1, by omega, by go_num, hB2.out⟩
        case measure => simp [intOf]; omega
    · have hki : ¬ (k : Int) < len := by omega
      go_wp2
      go_ret
      exact ⟨rfl, hBk⟩
set_option maxHeartbeats 4000000 in
theorem c_eqIntS {B : Nat} {a a' : Option Addr} {len cap cap' : Nat} {ns : List Int} (w : World) (hB : B ≤ w.heap.size) (h : IntsAt B w a len cap ns) (h' : IntsAt B w a' len cap' ns) :
    Calls Tryz.prog 13 #[.slice a len cap, .slice a' len cap'] w fun e w' => e = .returned (.bool true) ∧ Below B w w' := by
  have hm : len ≤ maxLen := Nat.le_trans h.2.1 h.2.2.1
  unfold maxLen at hm
  have HN := Go.Lib.hid h
  have HN' := Go.Lib.hid h'
  have hlen : ns.length = len := h.1
  clear h h'
  go_enter Tryz.func13, Tryz.ntmps13
  go_wp2
  go_loopw [5] (fun i wr => ∃ k : Nat, k ≤ len ∧ i = .int .i64 k ∧ Below B w wr) (fun i _ => len - (intOf i).toNat)
  case atStart => exact ⟨0, by omega, rfl, Below.refl _ _⟩
  case round =>
    obtain ⟨k, hk, rfl, hBk⟩ := hrel
    by_cases hlt : k < len
    · have hki : (k : Int) < len := by omega
      obtain ⟨p, b, off, hp, -, rfl, hbB, c0⟩ := int_at (HN.out.below hBk) hlt
      obtain ⟨p', b', off', hp', -, rfl, hbB', d0⟩ := int_at (HN'.out.below hBk) hlt
      obtain rfl : p' = p := by rw [← hp, ← hp']
      have HB := Go.Lib.hid hBk
      clear hp hp' hBk
      go_wp2_with fail
      go_quiet (fail)
      go_wp2
      go_roundw
      case rel => exact ⟨k + 1, by omega, by go_num, below_drewN HB.out _⟩
      case measure => simp [intOf]; omega
    · have hki : ¬ (k : Int) < len := by omega
      go_wp2
      go_ret
      exact ⟨rfl, hBk⟩

theorem c_szBindS {B : Nat} {a : Option Addr} {len cap : Nat} {ns : List BD} (left : Int) (hl0 : 0 ≤ left) (hl1 : left ≤ 1048576) (w : World) (h : BindsAt B w a len cap ns) :
    Calls Tryz.prog 21 #[.slice a len cap, .int .i64 left] w (SzP len left w) := by
  have hm : len ≤ maxLen := Nat.le_trans h.2.1 h.2.2.1
  unfold maxLen at hm
  have hw : wrap64 (left - len) = left - len := IntWalk.wrap64_in _ (by omega)
  clear h
  by_cases hneg : left - len < 0
  · go_enter Tryz.func21, Tryz.ntmps21
    go_wp2
    go_ret
    exact ⟨_, rfl, by omega, by omega, by omega, Below.refl _ _⟩
  · go_enter Tryz.func21, Tryz.ntmps21
    go_wp2
    go_ret
    exact ⟨_, rfl, by omega, by omega, by omega, Below.refl _ _⟩

theorem c_szIntS {B : Nat} {a : Option Addr} {len cap : Nat} {ns : List Int} (left : Int) (hl0 : 0 ≤ left) (hl1 : left ≤ 1048576) (w : World) (h : IntsAt B w a len cap ns) :
    Calls Tryz.prog 22 #[.slice a len cap, .int .i64 left] w (SzP len left w) := by
  have hm : len ≤ maxLen := Nat.le_trans h.2.1 h.2.2.1
  unfold maxLen at hm
  have hw : wrap64 (left - len) = left - len := IntWalk.wrap64_in _ (by omega)
  clear h
  by_cases hneg : left - len < 0
  · go_enter Tryz.func22, Tryz.ntmps22
    go_wp2
    go_ret
    exact ⟨_, rfl, by omega, by omega, by omega, Below.refl _ _⟩
  · go_enter Tryz.func22, Tryz.ntmps22
    go_wp2
    go_ret
    exact ⟨_, rfl, by omega, by omega, by omega, Below.refl _ _⟩

set_option maxHeartbeats 4000000 in
theorem c_szModel {B : Nat} {s0 s1 s2 s3 s4 : SL} {M : MD} (w : World) (hBw : B ≤ w.heap.size) (h : ModelAt B w s0 s1 s2 s3 s4 M) :
    Calls Tryz.prog 6 #[.agg (mcells s0 s1 s2 s3 s4).toArray, .int .i64 1048576] w fun e w' => ∃ r, e = .returned (.int .i64 r) ∧ (0 ≤ r → s0.len ≤ 1048576 ∧ s1.len ≤ 1048576 ∧ s2.len ≤ 1048576 ∧ s3.len ≤ 1048576 ∧ s4.len ≤ 1048576) ∧ Below w.heap.size w w' := by
  have HMA := Go.Lib.hid h
  clear h
  simp only [mcells]
  go_enter Tryz.func6, Tryz.ntmps6
  go_upto_region 1 with fail
  refine code_gen (R := fun wb => Boxed s0 s1 s2 s3 s4 w wb) (Boxed.new _ _ _ _ _ _ _) ?_
  intro w0 hbox
  have HX0 := Go.Lib.hid hbox
  clear hbox
  obtain ⟨hlt, x0, x1, x2, x3, x4, hBx⟩ := HX0.out
  have HM0 := Go.Lib.hid (HMA.out.below (hBx.mono hBw))
  have hsz0 : B ≤ w0.heap.size := Nat.le_trans hBw hBx.size
  clear hBx
  go_wp2_with fail
  refine (c_szNodeSP (B := B) 1048576 (by omega) (by omega) w0 hsz0 HM0.out.ns).mono ?_
  rintro e w1 ⟨r0, rfl, ha0, hb0, hc0, hB1⟩
  have HX1 := Go.Lib.hid (HX0.out.below hB1)
  clear hB1 x0 x1 x2 x3 x4 hlt
  by_cases hn0 : r0 < 0
  · go_wp2_with fail
    go_ret
    exact ⟨_, rfl, by omega, HX1.out.2.2.2.2.2.2⟩
  obtain ⟨hlt, x0, x1, x2, x3, x4, hBx⟩ := HX1.out
  have HM1 := Go.Lib.hid (HMA.out.below (hBx.mono hBw))
  have hsz1 : B ≤ w1.heap.size := Nat.le_trans hBw hBx.size
  clear hBx
  go_wp2_with fail
  refine (c_szBindS (B := B) r0 (by omega) (by omega) w1 HM1.out.is).mono ?_
  rintro e w2 ⟨r1, rfl, ha1, hb1, hc1, hB1⟩
  have HX2 := Go.Lib.hid (HX1.out.below hB1)
  clear hB1 x0 x1 x2 x3 x4 hlt
  by_cases hn1 : r1 < 0
  · go_wp2_with fail
    go_ret
    exact ⟨_, rfl, by omega, HX2.out.2.2.2.2.2.2⟩
  obtain ⟨hlt, x0, x1, x2, x3, x4, hBx⟩ := HX2.out
  have HM2 := Go.Lib.hid (HMA.out.below (hBx.mono hBw))
  have hsz2 : B ≤ w2.heap.size := Nat.le_trans hBw hBx.size
  clear hBx
  go_wp2_with fail
  refine (c_szBindS (B := B) r1 (by omega) (by omega) w2 HM2.out.xs).mono ?_
  rintro e w3 ⟨r2, rfl, ha2, hb2, hc2, hB1⟩
  have HX3 := Go.Lib.hid (HX2.out.below hB1)
  clear hB1 x0 x1 x2 x3 x4 hlt
  by_cases hn2 : r2 < 0
  · go_wp2_with fail
    go_ret
    exact ⟨_, rfl, by omega, HX3.out.2.2.2.2.2.2⟩
  obtain ⟨hlt, x0, x1, x2, x3, x4, hBx⟩ := HX3.out
  have HM3 := Go.Lib.hid (HMA.out.below (hBx.mono hBw))
  have hsz3 : B ≤ w3.heap.size := Nat.le_trans hBw hBx.size
  clear hBx
  go_wp2_with fail
  refine (c_szIntS (B := B) r2 (by omega) (by omega) w3 HM3.out.bads).mono ?_
  rintro e w4 ⟨r3, rfl, ha3, hb3, hc3, hB1⟩
  have HX4 := Go.Lib.hid (HX3.out.below hB1)
  clear hB1 x0 x1 x2 x3 x4 hlt
  by_cases hn3 : r3 < 0
  · go_wp2_with fail
    go_ret
    exact ⟨_, rfl, by omega, HX4.out.2.2.2.2.2.2⟩
  obtain ⟨hlt, x0, x1, x2, x3, x4, hBx⟩ := HX4.out
  have HM4 := Go.Lib.hid (HMA.out.below (hBx.mono hBw))
  have hsz4 : B ≤ w4.heap.size := Nat.le_trans hBw hBx.size
  clear hBx
  go_wp2_with fail
  refine (c_szIntS (B := B) r3 (by omega) (by omega) w4 HM4.out.holds).mono ?_
  rintro e w5 ⟨r4, rfl, ha4, hb4, hc4, hB1⟩
  have HX5 := Go.Lib.hid (HX4.out.below hB1)
  clear hB1 x0 x1 x2 x3 x4 hlt
  by_cases hn4 : r4 < 0
  · go_wp2_with fail
    go_ret
    exact ⟨_, rfl, by omega, HX5.out.2.2.2.2.2.2⟩
  go_wp2_with fail
  go_ret
  exact ⟨_, rfl, fun _ => ⟨by omega, by omega, by omega, by omega, by omega⟩, HX5.out.2.2.2.2.2.2⟩

/-- The boxes of two models. -/
structure TwoB (A C : Array Value) (w wb : World) : Prop where
  b1 : wb.heap[w.heap.size]? = some (.cells A 32 (0, 0))
  b2 : wb.heap[w.heap.size + 1]? = some (.cells C 32 (0, 0))
  B : Below w.heap.size w wb
theorem TwoB.below {A C : Array Value} {w wb w' : World} (h : TwoB A C w wb) (hb : Below wb.heap.size wb w') : TwoB A C w w' :=
  have hl : w.heap.size + 1 < wb.heap.size := (Array.getElem?_eq_some_iff.1 h.b2).1
  ⟨(hb.block _ (by omega)).trans h.b1, (hb.block _ hl).trans h.b2, h.B.trans (hb.mono h.B.size)⟩
theorem TwoB.start (A C : Array Value) (w : World) : TwoB A C w ((w.alloc (.cells A 32)).alloc (.cells C 32)) := by
  refine ⟨?_, ?_, by go_grown⟩
  · rw [(MapKept.heap_alloc _ _).2 _ (alloc_ltS _ _)]
    exact (MapKept.heap_alloc _ _).1
  · have e : w.heap.size + 1 = (w.alloc (.cells A 32)).heap.size := by show _ = (w.heap.push _).size; simp
    rw [e]
    exact (MapKept.heap_alloc _ _).1
set_option maxHeartbeats 4000000 in
theorem c_eqModel {B g0 g1 g2 g3 g4 h0 h1 h2 h3 h4 l0 l1 l2 l3 l4 : Nat} {M : MD} (w : World) (hBw : B ≤ w.heap.size) (h : ModelAt B w (slOf g0 l0) (slOf g1 l1) (slOf g2 l2) (slOf g3 l3) (slOf g4 l4) M) (h' : ModelAt B w (slOf h0 l0) (slOf h1 l1) (slOf h2 l2) (slOf h3 l3) (slOf h4 l4) M) :
    Calls Tryz.prog 10 #[.agg (mcells (slOf g0 l0) (slOf g1 l1) (slOf g2 l2) (slOf g3 l3) (slOf g4 l4)).toArray, .agg (mcells (slOf h0 l0) (slOf h1 l1) (slOf h2 l2) (slOf h3 l3) (slOf h4 l4)).toArray] w fun e w' => e = .returned (.bool true) ∧ Below w.heap.size w w' := by
  have HMA := Go.Lib.hid h
  have HMB := Go.Lib.hid h'
  clear h h'
  simp only [mcells, slOf]
  go_enter Tryz.func10, Tryz.ntmps10
  go_upto_region 1 with fail
  refine code_gen (R := fun wb => TwoB #[.slice (some ⟨g0, 0, none⟩) l0 l0, .slice (some ⟨g1, 0, none⟩) l1 l1, .slice (some ⟨g2, 0, none⟩) l2 l2, .slice (some ⟨g3, 0, none⟩) l3 l3, .slice (some ⟨g4, 0, none⟩) l4 l4] #[.slice (some ⟨h0, 0, none⟩) l0 l0, .slice (some ⟨h1, 0, none⟩) l1 l1, .slice (some ⟨h2, 0, none⟩) l2 l2, .slice (some ⟨h3, 0, none⟩) l3 l3, .slice (some ⟨h4, 0, none⟩) l4 l4] w wb) (TwoB.start _ _ _) ?_
  intro w0 hbox
  have HX0 := Go.Lib.hid hbox
  clear hbox
  have x := cell_of_block (i := 0) HX0.out.b1 (v := .slice (some ⟨g0, 0, none⟩) l0 l0) rfl
  have y := cell_of_block (i := 0) HX0.out.b2 (v := .slice (some ⟨h0, 0, none⟩) l0 l0) rfl
  have hsz0 : B ≤ w0.heap.size := Nat.le_trans hBw HX0.out.B.size
  go_wp2_with fail
  refine (c_eqNodeS (B := w0.heap.size) w0 (Nat.le_refl _) (RowsAt.mono (cells := ND.cells) (ok := ND.ok) (c := 9) (HMA.out.below (HX0.out.B.mono hBw)).ns hsz0) (RowsAt.mono (cells := ND.cells) (ok := ND.ok) (c := 9) (HMB.out.below (HX0.out.B.mono hBw)).ns hsz0)).mono ?_
  rintro e w1 ⟨rfl, hB1⟩
  have HX1 := Go.Lib.hid (HX0.out.below hB1)
  clear hB1 x y
  have x := cell_of_block (i := 1) HX1.out.b1 (v := .slice (some ⟨g1, 0, none⟩) l1 l1) rfl
  have y := cell_of_block (i := 1) HX1.out.b2 (v := .slice (some ⟨h1, 0, none⟩) l1 l1) rfl
  have hsz1 : B ≤ w1.heap.size := Nat.le_trans hBw HX1.out.B.size
  go_wp2_with fail
  refine (c_eqBindS (B := w1.heap.size) w1 (Nat.le_refl _) (RowsAt.mono (cells := BD.cells) (ok := BD.ok) (c := 2) (HMA.out.below (HX1.out.B.mono hBw)).is hsz1) (RowsAt.mono (cells := BD.cells) (ok := BD.ok) (c := 2) (HMB.out.below (HX1.out.B.mono hBw)).is hsz1)).mono ?_
  rintro e w2 ⟨rfl, hB1⟩
  have HX2 := Go.Lib.hid (HX1.out.below hB1)
  clear hB1 x y
  have x := cell_of_block (i := 2) HX2.out.b1 (v := .slice (some ⟨g2, 0, none⟩) l2 l2) rfl
  have y := cell_of_block (i := 2) HX2.out.b2 (v := .slice (some ⟨h2, 0, none⟩) l2 l2) rfl
  have hsz2 : B ≤ w2.heap.size := Nat.le_trans hBw HX2.out.B.size
  go_wp2_with fail
  refine (c_eqBindS (B := w2.heap.size) w2 (Nat.le_refl _) (RowsAt.mono (cells := BD.cells) (ok := BD.ok) (c := 2) (HMA.out.below (HX2.out.B.mono hBw)).xs hsz2) (RowsAt.mono (cells := BD.cells) (ok := BD.ok) (c := 2) (HMB.out.below (HX2.out.B.mono hBw)).xs hsz2)).mono ?_
  rintro e w3 ⟨rfl, hB1⟩
  have HX3 := Go.Lib.hid (HX2.out.below hB1)
  clear hB1 x y
  have x := cell_of_block (i := 3) HX3.out.b1 (v := .slice (some ⟨g3, 0, none⟩) l3 l3) rfl
  have y := cell_of_block (i := 3) HX3.out.b2 (v := .slice (some ⟨h3, 0, none⟩) l3 l3) rfl
  have hsz3 : B ≤ w3.heap.size := Nat.le_trans hBw HX3.out.B.size
  go_wp2_with fail
  refine (c_eqIntS (B := w3.heap.size) w3 (Nat.le_refl _) (RowsAt.mono (cells := intCells) (ok := fits) (c := 1) (HMA.out.below (HX3.out.B.mono hBw)).bads hsz3) (RowsAt.mono (cells := intCells) (ok := fits) (c := 1) (HMB.out.below (HX3.out.B.mono hBw)).bads hsz3)).mono ?_
  rintro e w4 ⟨rfl, hB1⟩
  have HX4 := Go.Lib.hid (HX3.out.below hB1)
  clear hB1 x y
  have x := cell_of_block (i := 4) HX4.out.b1 (v := .slice (some ⟨g4, 0, none⟩) l4 l4) rfl
  have y := cell_of_block (i := 4) HX4.out.b2 (v := .slice (some ⟨h4, 0, none⟩) l4 l4) rfl
  have hsz4 : B ≤ w4.heap.size := Nat.le_trans hBw HX4.out.B.size
  go_wp2_with fail
  refine (c_eqIntS (B := w4.heap.size) w4 (Nat.le_refl _) (RowsAt.mono (cells := intCells) (ok := fits) (c := 1) (HMA.out.below (HX4.out.B.mono hBw)).holds hsz4) (RowsAt.mono (cells := intCells) (ok := fits) (c := 1) (HMB.out.below (HX4.out.B.mono hBw)).holds hsz4)).mono ?_
  rintro e w5 ⟨rfl, hB1⟩
  have HX5 := Go.Lib.hid (HX4.out.below hB1)
  clear hB1 x y
  go_wp2_with fail
  go_ret
  exact ⟨rfl, HX5.out.B⟩

end Go.Proofs.YtbkcecilbpngcaaGreat
