/-
  Parts: EvL, shortened.
-/
import Derived.Test.YtlcgimadbpagfaaGreatZEvK
namespace Go.Proofs.YtlcgimadbpagfaaGreat
open Go.Lib
open Go.ChangeShapes Go.WideShapes Go.ChangeAt Go.RowKit Go.Maps
set_option linter.unusedVariables false
set_option maxRecDepth 100000
def CutP (N : Nat) (W : World) (p0 p1 p2 : PT) (s5 s6 s7 : Value) (wx : World) : Prop :=
 ∃ g5 g6 g7 : Nat, s5 = .pointer (some ⟨g5, 0, none⟩) ∧ s6 = .pointer (some ⟨g6, 0, none⟩) ∧ s7 = .pointer (some ⟨g7, 0, none⟩) ∧ (N ≤ g5 ∧ g5 < wx.heap.size) ∧ (N ≤ g6 ∧ g6 < wx.heap.size) ∧ (N ≤ g7 ∧ g7 < wx.heap.size) ∧
  wx.cell? ⟨g5, 0, none⟩ = some (.int .i64 p0.si) ∧ wx.cell? ⟨g5, 1, none⟩ = some (.int .i64 p0.sw) ∧ wx.cell? ⟨g5, 2, none⟩ = some (.slice p0.a p0.len p0.cap) ∧ wx.cell? ⟨g6, 0, none⟩ = some (.int .i64 p1.si) ∧ wx.cell? ⟨g6, 1, none⟩ = some (.int .i64 p1.sw) ∧ wx.cell? ⟨g6, 2, none⟩ = some (.slice p1.a p1.len p1.cap) ∧ wx.cell? ⟨g7, 0, none⟩ = some (.int .i64 p2.si) ∧ wx.cell? ⟨g7, 1, none⟩ = some (.int .i64 p2.sw) ∧ wx.cell? ⟨g7, 2, none⟩ = some (.slice p2.a p2.len p2.cap) ∧ Below N W wx
def parts9 (p0 p1 p2 : PT) : Array Value := #[.int .i64 p0.si, .int .i64 p0.sw, .slice p0.a p0.len p0.cap, .int .i64 p1.si, .int .i64 p1.sw, .slice p1.a p1.len p1.cap, .int .i64 p2.si, .int .i64 p2.sw, .slice p2.a p2.len p2.cap]
theorem ta0_0 (w : World) : (Instr.typeAssert (.iface 157 (.agg #[])) 154 157 true).run Tryz.prog w = .ok (.tuple #[.agg #[], .bool true]) w := by kernel_rfl
theorem ta1_0 (w : World) : (Instr.typeAssert (.iface 159 (.agg #[])) 154 157 true).run Tryz.prog w = .ok (.tuple #[.agg #[], .bool false]) w := by kernel_rfl
theorem ta1_1 (w : World) : (Instr.typeAssert (.iface 159 (.agg #[])) 154 159 true).run Tryz.prog w = .ok (.tuple #[.agg #[], .bool true]) w := by kernel_rfl
theorem ta2_0 (w : World) : (Instr.typeAssert (.iface 161 (.agg #[])) 154 157 true).run Tryz.prog w = .ok (.tuple #[.agg #[], .bool false]) w := by kernel_rfl
theorem ta2_1 (w : World) : (Instr.typeAssert (.iface 161 (.agg #[])) 154 159 true).run Tryz.prog w = .ok (.tuple #[.agg #[], .bool false]) w := by kernel_rfl
theorem ta2_2 (w : World) : (Instr.typeAssert (.iface 161 (.agg #[])) 154 161 true).run Tryz.prog w = .ok (.tuple #[.agg #[], .bool true]) w := by kernel_rfl
theorem ta3_0 (w : World) : (Instr.typeAssert (.iface 163 (.agg #[])) 154 157 true).run Tryz.prog w = .ok (.tuple #[.agg #[], .bool false]) w := by kernel_rfl
theorem ta3_1 (w : World) : (Instr.typeAssert (.iface 163 (.agg #[])) 154 159 true).run Tryz.prog w = .ok (.tuple #[.agg #[], .bool false]) w := by kernel_rfl
theorem ta3_2 (w : World) : (Instr.typeAssert (.iface 163 (.agg #[])) 154 161 true).run Tryz.prog w = .ok (.tuple #[.agg #[], .bool false]) w := by kernel_rfl
theorem ta3_3 (w : World) : (Instr.typeAssert (.iface 163 (.agg #[])) 154 163 true).run Tryz.prog w = .ok (.tuple #[.agg #[], .bool true]) w := by kernel_rfl
theorem ta4_0 (w : World) : (Instr.typeAssert (.iface 165 (.agg #[])) 154 157 true).run Tryz.prog w = .ok (.tuple #[.agg #[], .bool false]) w := by kernel_rfl
theorem ta4_1 (w : World) : (Instr.typeAssert (.iface 165 (.agg #[])) 154 159 true).run Tryz.prog w = .ok (.tuple #[.agg #[], .bool false]) w := by kernel_rfl
theorem ta4_2 (w : World) : (Instr.typeAssert (.iface 165 (.agg #[])) 154 161 true).run Tryz.prog w = .ok (.tuple #[.agg #[], .bool false]) w := by kernel_rfl
theorem ta4_3 (w : World) : (Instr.typeAssert (.iface 165 (.agg #[])) 154 163 true).run Tryz.prog w = .ok (.tuple #[.agg #[], .bool false]) w := by kernel_rfl
theorem ta4_4 (w : World) : (Instr.typeAssert (.iface 165 (.agg #[])) 154 165 true).run Tryz.prog w = .ok (.tuple #[.agg #[], .bool true]) w := by kernel_rfl
set_option maxHeartbeats 16000000 in
theorem c_reckonConst (x : ND) (p0 p1 p2 : PT) (w : World)  (y0 : fam0 x.kind = true) (hz : fits x.n) :
  Calls Tryz.prog 91 #[.agg x.cells.toArray, .agg (parts9 p0 p1 p2)] w (ClnP [x.n] w) := by
 have HY := hid y0
 clear y0
 simp only [ND.cells, parts9]
 go_enter Tryz.func91, Tryz.ntmps91
 go_upto_region 1 with fail
 refine code_gen (R := fun wb => wb.heap[w.heap.size]? = some (.cells #[.int .i64 x.kind, .int .i64 x.a, .int .i64 x.b, .int .i64 x.c, .int .i64 x.n, .int .i64 x.m, .int .i64 x.si, .int .i64 x.sw, .string x.name] 111 (0, 0)) ∧ wb.heap[w.heap.size + 1]? = some (.cells #[.int .i64 p0.si, .int .i64 p0.sw, .slice p0.a p0.len p0.cap, .int .i64 p1.si, .int .i64 p1.sw, .slice p1.a p1.len p1.cap, .int .i64 p2.si, .int .i64 p2.sw, .slice p2.a p2.len p2.cap] 124 (0, 0)) ∧ Below w.heap.size w wb) ⟨(heap2 _ _ _).1, (heap2 _ _ _).2, by go_grown⟩ ?_
 rintro W ⟨k0, k1, hB0⟩
 have HB0 := hid hB0
 have HK0 := hid k0
 have hl1 : w.heap.size + 1 < W.heap.size := (Array.getElem?_eq_some_iff.1 k1).1
 have s0 := cell_of_block (i := 0) k1 (v := .int .i64 p0.si) rfl
 have s1 := cell_of_block (i := 1) k1 (v := .int .i64 p0.sw) rfl
 have s2 := cell_of_block (i := 2) k1 (v := .slice p0.a p0.len p0.cap) rfl
 have s3 := cell_of_block (i := 3) k1 (v := .int .i64 p1.si) rfl
 have s4 := cell_of_block (i := 4) k1 (v := .int .i64 p1.sw) rfl
 have s5 := cell_of_block (i := 5) k1 (v := .slice p1.a p1.len p1.cap) rfl
 have s6 := cell_of_block (i := 6) k1 (v := .int .i64 p2.si) rfl
 have s7 := cell_of_block (i := 7) k1 (v := .int .i64 p2.sw) rfl
 have s8 := cell_of_block (i := 8) k1 (v := .slice p2.a p2.len p2.cap) rfl
 clear hB0 k0 k1
 go_cut [5, 6, 7] (fun s5 s6 s7 wx => CutP W.heap.size W p0 p1 p2 s5 s6 s7 wx)
 case first =>
  go_region_held3 (fun w' => w'.cell? ⟨w.heap.size + 1, 0, none⟩ = some (.int .i64 p0.si) ∧ w'.cell? ⟨w.heap.size + 1, 1, none⟩ = some (.int .i64 p0.sw) ∧ w'.cell? ⟨w.heap.size + 1, 2, none⟩ = some (.slice p0.a p0.len p0.cap) ∧ w'.cell? ⟨w.heap.size + 1, 3, none⟩ = some (.int .i64 p1.si) ∧ w'.cell? ⟨w.heap.size + 1, 4, none⟩ = some (.int .i64 p1.sw) ∧ w'.cell? ⟨w.heap.size + 1, 5, none⟩ = some (.slice p1.a p1.len p1.cap) ∧ w'.cell? ⟨w.heap.size + 1, 6, none⟩ = some (.int .i64 p2.si) ∧ w'.cell? ⟨w.heap.size + 1, 7, none⟩ = some (.int .i64 p2.sw) ∧ w'.cell? ⟨w.heap.size + 1, 8, none⟩ = some (.slice p2.a p2.len p2.cap)) (exact ⟨keepc (by go_grown) hl1 s0, keepc (by go_grown) hl1 s1, keepc (by go_grown) hl1 s2, keepc (by go_grown) hl1 s3, keepc (by go_grown) hl1 s4, keepc (by go_grown) hl1 s5, keepc (by go_grown) hl1 s6, keepc (by go_grown) hl1 s7, keepc (by go_grown) hl1 s8⟩) (fail)
  all_goals
   go_wp2_with fail
   go_meet
   refine ⟨_, _, _, rfl, rfl, rfl, ?_, ?_, ?_, ?_, ?_, ?_, ?_, ?_, ?_, ?_, ?_, ?_, ?_⟩
   all_goals first | (simp; done) | (simp; omega) | exact cell3_0 _ _ _ _ _ _ | exact cell3_1 _ _ _ _ _ _ | exact cell3_2 _ _ _ _ _ _ | (go_grown; done)
 case rest =>
  obtain ⟨g5, g6, g7, rfl, rfl, rfl, ⟨m5, l5⟩, ⟨m6, l6⟩, ⟨m7, l7⟩, e0_0, e0_1, e0_2, e1_0, e1_1, e1_2, e2_0, e2_1, e2_2, hB⟩ := hcut
  clear s0 s1 s2 s3 s4 s5 s6 s7 s8
  have HBW := hid (show Below w.heap.size w wc from HB0.out.trans (hB.mono HB0.out.size))
  have HK := hid (show wc.heap[w.heap.size]? = some (.cells #[.int .i64 x.kind, .int .i64 x.a, .int .i64 x.b, .int .i64 x.c, .int .i64 x.n, .int .i64 x.m, .int .i64 x.si, .int .i64 x.sw, .string x.name] 111 (0, 0)) from (hB.block _ (by omega)).trans HK0.out)
  have n0 := cell_of_block (i := 0) HK.out (v := .int .i64 x.kind) rfl
  have hlw : w.heap.size < wc.heap.size := by have := hB.size; omega
  clear hB HK0
  go_wp2_with fail
  refine (c_kindFamily0 x.kind wc  HY.out).mono ?_
  rintro e w1 ⟨rfl, hq⟩
  have HB1 := hid (HBW.out.trans (hq.mono HBW.out.size))
  have HK1 := hid ((hq.block _ hlw).trans HK.out)
  have hl1w : w.heap.size < w1.heap.size := Nat.lt_of_lt_of_le hlw hq.size
  have hsz1 := hq.size
  have f0_0 := keepc hq l5 e0_0
  have f0_1 := keepc hq l5 e0_1
  have f0_2 := keepc hq l5 e0_2
  have f1_0 := keepc hq l6 e1_0
  have f1_1 := keepc hq l6 e1_1
  have f1_2 := keepc hq l6 e1_2
  have f2_0 := keepc hq l7 e2_0
  have f2_1 := keepc hq l7 e2_1
  have f2_2 := keepc hq l7 e2_2
  clear hq n0 e0_0 e0_1 e0_2 e1_0 e1_1 e1_2 e2_0 e2_1 e2_2 HK HBW
  have q0 := cell_of_block (i := 0) HK1.out (v := .int .i64 x.kind) rfl
  have q1 := cell_of_block (i := 1) HK1.out (v := .int .i64 x.a) rfl
  have q2 := cell_of_block (i := 2) HK1.out (v := .int .i64 x.b) rfl
  have q3 := cell_of_block (i := 3) HK1.out (v := .int .i64 x.c) rfl
  have q4 := cell_of_block (i := 4) HK1.out (v := .int .i64 x.n) rfl
  have q5 := cell_of_block (i := 5) HK1.out (v := .int .i64 x.m) rfl
  have q6 := cell_of_block (i := 6) HK1.out (v := .int .i64 x.si) rfl
  have q7 := cell_of_block (i := 7) HK1.out (v := .int .i64 x.sw) rfl
  have q8 := cell_of_block (i := 8) HK1.out (v := .string x.name) rfl
  have ha0 := ta0_0 w1
  go_upto_region 5 with fail
  clear ha0
  refine code_gen (R := fun wb => Below w1.heap.size w1 wb) (by go_grown) ?_
  intro w9 hq9
  replace f0_0 := keepc hq9 (Nat.lt_of_lt_of_le l5 hsz1) f0_0
  replace f0_1 := keepc hq9 (Nat.lt_of_lt_of_le l5 hsz1) f0_1
  replace f0_2 := keepc hq9 (Nat.lt_of_lt_of_le l5 hsz1) f0_2
  replace f1_0 := keepc hq9 (Nat.lt_of_lt_of_le l6 hsz1) f1_0
  replace f1_1 := keepc hq9 (Nat.lt_of_lt_of_le l6 hsz1) f1_1
  replace f1_2 := keepc hq9 (Nat.lt_of_lt_of_le l6 hsz1) f1_2
  replace f2_0 := keepc hq9 (Nat.lt_of_lt_of_le l7 hsz1) f2_0
  replace f2_1 := keepc hq9 (Nat.lt_of_lt_of_le l7 hsz1) f2_1
  replace f2_2 := keepc hq9 (Nat.lt_of_lt_of_le l7 hsz1) f2_2
  replace q0 := keepc hq9 hl1w q0
  replace q1 := keepc hq9 hl1w q1
  replace q2 := keepc hq9 hl1w q2
  replace q3 := keepc hq9 hl1w q3
  replace q4 := keepc hq9 hl1w q4
  replace q5 := keepc hq9 hl1w q5
  replace q6 := keepc hq9 hl1w q6
  replace q7 := keepc hq9 hl1w q7
  replace q8 := keepc hq9 hl1w q8
  have HB9 := hid (HB1.out.trans (hq9.mono HB1.out.size))
  clear HB1 hq9
  have HB1 := HB9
  go_wp2_with fail
  refine (c_constFam x _).mono ?_
  rintro e w2 ⟨rfl, hq⟩
  have HB2 := hid (HB1.out.trans (hq.mono HB1.out.size))
  have HE := hid (Below.alloc HB2.out HB2.out.size (.cells #[.int .i64 x.n] 3))
  clear hq f0_0 f0_1 f0_2 f1_0 f1_1 f1_2 f2_0 f2_1 f2_2 q0 q1 q2 q3 q4 q5 q6 q7 q8
  go_wp2_with fail
  go_ret
  exact ⟨_, rfl, own_lit HB2.out.size (MapKept.heap_alloc _ _).1 hz, HE.out⟩
set_option maxHeartbeats 16000000 in
theorem c_reckonOne (x : ND) (p0 p1 p2 : PT) (w : World) (n0 : fam0 x.kind = false) (y1 : fam1 x.kind = true) (z : Int) (hcall : ∀ wq, Below w.heap.size w wq → Calls Tryz.prog 132 #[.agg #[], .int .i64 x.kind, .agg p0.cells] wq fun e w' => e = .returned (.int .i64 z) ∧ Below wq.heap.size wq w') (hz : fits z) :
  Calls Tryz.prog 91 #[.agg x.cells.toArray, .agg (parts9 p0 p1 p2)] w (ClnP [z] w) := by
 have HN0 := hid n0
 clear n0
 have HY := hid y1
 clear y1
 simp only [ND.cells, parts9]
 go_enter Tryz.func91, Tryz.ntmps91
 go_upto_region 1 with fail
 refine code_gen (R := fun wb => wb.heap[w.heap.size]? = some (.cells #[.int .i64 x.kind, .int .i64 x.a, .int .i64 x.b, .int .i64 x.c, .int .i64 x.n, .int .i64 x.m, .int .i64 x.si, .int .i64 x.sw, .string x.name] 111 (0, 0)) ∧ wb.heap[w.heap.size + 1]? = some (.cells #[.int .i64 p0.si, .int .i64 p0.sw, .slice p0.a p0.len p0.cap, .int .i64 p1.si, .int .i64 p1.sw, .slice p1.a p1.len p1.cap, .int .i64 p2.si, .int .i64 p2.sw, .slice p2.a p2.len p2.cap] 124 (0, 0)) ∧ Below w.heap.size w wb) ⟨(heap2 _ _ _).1, (heap2 _ _ _).2, by go_grown⟩ ?_
 rintro W ⟨k0, k1, hB0⟩
 have HB0 := hid hB0
 have HK0 := hid k0
 have hl1 : w.heap.size + 1 < W.heap.size := (Array.getElem?_eq_some_iff.1 k1).1
 have s0 := cell_of_block (i := 0) k1 (v := .int .i64 p0.si) rfl
 have s1 := cell_of_block (i := 1) k1 (v := .int .i64 p0.sw) rfl
 have s2 := cell_of_block (i := 2) k1 (v := .slice p0.a p0.len p0.cap) rfl
 have s3 := cell_of_block (i := 3) k1 (v := .int .i64 p1.si) rfl
 have s4 := cell_of_block (i := 4) k1 (v := .int .i64 p1.sw) rfl
 have s5 := cell_of_block (i := 5) k1 (v := .slice p1.a p1.len p1.cap) rfl
 have s6 := cell_of_block (i := 6) k1 (v := .int .i64 p2.si) rfl
 have s7 := cell_of_block (i := 7) k1 (v := .int .i64 p2.sw) rfl
 have s8 := cell_of_block (i := 8) k1 (v := .slice p2.a p2.len p2.cap) rfl
 clear hB0 k0 k1
 go_cut [5, 6, 7] (fun s5 s6 s7 wx => CutP W.heap.size W p0 p1 p2 s5 s6 s7 wx)
 case first =>
  go_region_held3 (fun w' => w'.cell? ⟨w.heap.size + 1, 0, none⟩ = some (.int .i64 p0.si) ∧ w'.cell? ⟨w.heap.size + 1, 1, none⟩ = some (.int .i64 p0.sw) ∧ w'.cell? ⟨w.heap.size + 1, 2, none⟩ = some (.slice p0.a p0.len p0.cap) ∧ w'.cell? ⟨w.heap.size + 1, 3, none⟩ = some (.int .i64 p1.si) ∧ w'.cell? ⟨w.heap.size + 1, 4, none⟩ = some (.int .i64 p1.sw) ∧ w'.cell? ⟨w.heap.size + 1, 5, none⟩ = some (.slice p1.a p1.len p1.cap) ∧ w'.cell? ⟨w.heap.size + 1, 6, none⟩ = some (.int .i64 p2.si) ∧ w'.cell? ⟨w.heap.size + 1, 7, none⟩ = some (.int .i64 p2.sw) ∧ w'.cell? ⟨w.heap.size + 1, 8, none⟩ = some (.slice p2.a p2.len p2.cap)) (exact ⟨keepc (by go_grown) hl1 s0, keepc (by go_grown) hl1 s1, keepc (by go_grown) hl1 s2, keepc (by go_grown) hl1 s3, keepc (by go_grown) hl1 s4, keepc (by go_grown) hl1 s5, keepc (by go_grown) hl1 s6, keepc (by go_grown) hl1 s7, keepc (by go_grown) hl1 s8⟩) (fail)
  all_goals
   go_wp2_with fail
   go_meet
   refine ⟨_, _, _, rfl, rfl, rfl, ?_, ?_, ?_, ?_, ?_, ?_, ?_, ?_, ?_, ?_, ?_, ?_, ?_⟩
   all_goals first | (simp; done) | (simp; omega) | exact cell3_0 _ _ _ _ _ _ | exact cell3_1 _ _ _ _ _ _ | exact cell3_2 _ _ _ _ _ _ | (go_grown; done)
 case rest =>
  obtain ⟨g5, g6, g7, rfl, rfl, rfl, ⟨m5, l5⟩, ⟨m6, l6⟩, ⟨m7, l7⟩, e0_0, e0_1, e0_2, e1_0, e1_1, e1_2, e2_0, e2_1, e2_2, hB⟩ := hcut
  clear s0 s1 s2 s3 s4 s5 s6 s7 s8
  have HBW := hid (show Below w.heap.size w wc from HB0.out.trans (hB.mono HB0.out.size))
  have HK := hid (show wc.heap[w.heap.size]? = some (.cells #[.int .i64 x.kind, .int .i64 x.a, .int .i64 x.b, .int .i64 x.c, .int .i64 x.n, .int .i64 x.m, .int .i64 x.si, .int .i64 x.sw, .string x.name] 111 (0, 0)) from (hB.block _ (by omega)).trans HK0.out)
  have n0 := cell_of_block (i := 0) HK.out (v := .int .i64 x.kind) rfl
  have hlw : w.heap.size < wc.heap.size := by have := hB.size; omega
  clear hB HK0
  go_wp2_with fail
  refine (c_kindFamily1 x.kind wc HN0.out HY.out).mono ?_
  rintro e w1 ⟨rfl, hq⟩
  have HB1 := hid (HBW.out.trans (hq.mono HBW.out.size))
  have HK1 := hid ((hq.block _ hlw).trans HK.out)
  have hl1w : w.heap.size < w1.heap.size := Nat.lt_of_lt_of_le hlw hq.size
  have hsz1 := hq.size
  have f0_0 := keepc hq l5 e0_0
  have f0_1 := keepc hq l5 e0_1
  have f0_2 := keepc hq l5 e0_2
  have f1_0 := keepc hq l6 e1_0
  have f1_1 := keepc hq l6 e1_1
  have f1_2 := keepc hq l6 e1_2
  have f2_0 := keepc hq l7 e2_0
  have f2_1 := keepc hq l7 e2_1
  have f2_2 := keepc hq l7 e2_2
  clear hq n0 e0_0 e0_1 e0_2 e1_0 e1_1 e1_2 e2_0 e2_1 e2_2 HK HBW
  have q0 := cell_of_block (i := 0) HK1.out (v := .int .i64 x.kind) rfl
  have q1 := cell_of_block (i := 1) HK1.out (v := .int .i64 x.a) rfl
  have q2 := cell_of_block (i := 2) HK1.out (v := .int .i64 x.b) rfl
  have q3 := cell_of_block (i := 3) HK1.out (v := .int .i64 x.c) rfl
  have q4 := cell_of_block (i := 4) HK1.out (v := .int .i64 x.n) rfl
  have q5 := cell_of_block (i := 5) HK1.out (v := .int .i64 x.m) rfl
  have q6 := cell_of_block (i := 6) HK1.out (v := .int .i64 x.si) rfl
  have q7 := cell_of_block (i := 7) HK1.out (v := .int .i64 x.sw) rfl
  have q8 := cell_of_block (i := 8) HK1.out (v := .string x.name) rfl
  have ha0 := ta1_0 w1
  have ha1 := ta1_1 w1
  go_upto_region 8 with fail
  clear ha0 ha1
  refine code_gen (R := fun wb => Below w1.heap.size w1 wb) (by go_grown) ?_
  intro w9 hq9
  replace f0_0 := keepc hq9 (Nat.lt_of_lt_of_le l5 hsz1) f0_0
  replace f0_1 := keepc hq9 (Nat.lt_of_lt_of_le l5 hsz1) f0_1
  replace f0_2 := keepc hq9 (Nat.lt_of_lt_of_le l5 hsz1) f0_2
  replace f1_0 := keepc hq9 (Nat.lt_of_lt_of_le l6 hsz1) f1_0
  replace f1_1 := keepc hq9 (Nat.lt_of_lt_of_le l6 hsz1) f1_1
  replace f1_2 := keepc hq9 (Nat.lt_of_lt_of_le l6 hsz1) f1_2
  replace f2_0 := keepc hq9 (Nat.lt_of_lt_of_le l7 hsz1) f2_0
  replace f2_1 := keepc hq9 (Nat.lt_of_lt_of_le l7 hsz1) f2_1
  replace f2_2 := keepc hq9 (Nat.lt_of_lt_of_le l7 hsz1) f2_2
  replace q0 := keepc hq9 hl1w q0
  replace q1 := keepc hq9 hl1w q1
  replace q2 := keepc hq9 hl1w q2
  replace q3 := keepc hq9 hl1w q3
  replace q4 := keepc hq9 hl1w q4
  replace q5 := keepc hq9 hl1w q5
  replace q6 := keepc hq9 hl1w q6
  replace q7 := keepc hq9 hl1w q7
  replace q8 := keepc hq9 hl1w q8
  have HB9 := hid (HB1.out.trans (hq9.mono HB1.out.size))
  clear HB1 hq9
  have HB1 := HB9
  go_wp2_with fail
  refine (hcall _ HB1.out).mono ?_
  rintro e w2 ⟨rfl, hq⟩
  have HB2 := hid (HB1.out.trans (hq.mono HB1.out.size))
  have HE := hid (Below.alloc HB2.out HB2.out.size (.cells #[.int .i64 z] 3))
  clear hq f0_0 f0_1 f0_2 f1_0 f1_1 f1_2 f2_0 f2_1 f2_2 q0 q1 q2 q3 q4 q5 q6 q7 q8
  go_wp2_with fail
  go_ret
  exact ⟨_, rfl, own_lit HB2.out.size (MapKept.heap_alloc _ _).1 hz, HE.out⟩
set_option maxHeartbeats 16000000 in
theorem c_reckonTwo (x : ND) (p0 p1 p2 : PT) (w : World) (n0 : fam0 x.kind = false) (n1 : fam1 x.kind = false) (y2 : fam2 x.kind = true) (z : Int) (hcall : ∀ wq, Below w.heap.size w wq → Calls Tryz.prog 133 #[.agg #[], .int .i64 x.kind, .agg p0.cells, .agg p1.cells] wq fun e w' => e = .returned (.int .i64 z) ∧ Below wq.heap.size wq w') (hz : fits z) :
  Calls Tryz.prog 91 #[.agg x.cells.toArray, .agg (parts9 p0 p1 p2)] w (ClnP [z] w) := by
 have HN0 := hid n0
 clear n0
 have HN1 := hid n1
 clear n1
 have HY := hid y2
 clear y2
 simp only [ND.cells, parts9]
 go_enter Tryz.func91, Tryz.ntmps91
 go_upto_region 1 with fail
 refine code_gen (R := fun wb => wb.heap[w.heap.size]? = some (.cells #[.int .i64 x.kind, .int .i64 x.a, .int .i64 x.b, .int .i64 x.c, .int .i64 x.n, .int .i64 x.m, .int .i64 x.si, .int .i64 x.sw, .string x.name] 111 (0, 0)) ∧ wb.heap[w.heap.size + 1]? = some (.cells #[.int .i64 p0.si, .int .i64 p0.sw, .slice p0.a p0.len p0.cap, .int .i64 p1.si, .int .i64 p1.sw, .slice p1.a p1.len p1.cap, .int .i64 p2.si, .int .i64 p2.sw, .slice p2.a p2.len p2.cap] 124 (0, 0)) ∧ Below w.heap.size w wb) ⟨(heap2 _ _ _).1, (heap2 _ _ _).2, by go_grown⟩ ?_
 rintro W ⟨k0, k1, hB0⟩
 have HB0 := hid hB0
 have HK0 := hid k0
 have hl1 : w.heap.size + 1 < W.heap.size := (Array.getElem?_eq_some_iff.1 k1).1
 have s0 := cell_of_block (i := 0) k1 (v := .int .i64 p0.si) rfl
 have s1 := cell_of_block (i := 1) k1 (v := .int .i64 p0.sw) rfl
 have s2 := cell_of_block (i := 2) k1 (v := .slice p0.a p0.len p0.cap) rfl
 have s3 := cell_of_block (i := 3) k1 (v := .int .i64 p1.si) rfl
 have s4 := cell_of_block (i := 4) k1 (v := .int .i64 p1.sw) rfl
 have s5 := cell_of_block (i := 5) k1 (v := .slice p1.a p1.len p1.cap) rfl
 have s6 := cell_of_block (i := 6) k1 (v := .int .i64 p2.si) rfl
 have s7 := cell_of_block (i := 7) k1 (v := .int .i64 p2.sw) rfl
 have s8 := cell_of_block (i := 8) k1 (v := .slice p2.a p2.len p2.cap) rfl
 clear hB0 k0 k1
 go_cut [5, 6, 7] (fun s5 s6 s7 wx => CutP W.heap.size W p0 p1 p2 s5 s6 s7 wx)
 case first =>
  go_region_held3 (fun w' => w'.cell? ⟨w.heap.size + 1, 0, none⟩ = some (.int .i64 p0.si) ∧ w'.cell? ⟨w.heap.size + 1, 1, none⟩ = some (.int .i64 p0.sw) ∧ w'.cell? ⟨w.heap.size + 1, 2, none⟩ = some (.slice p0.a p0.len p0.cap) ∧ w'.cell? ⟨w.heap.size + 1, 3, none⟩ = some (.int .i64 p1.si) ∧ w'.cell? ⟨w.heap.size + 1, 4, none⟩ = some (.int .i64 p1.sw) ∧ w'.cell? ⟨w.heap.size + 1, 5, none⟩ = some (.slice p1.a p1.len p1.cap) ∧ w'.cell? ⟨w.heap.size + 1, 6, none⟩ = some (.int .i64 p2.si) ∧ w'.cell? ⟨w.heap.size + 1, 7, none⟩ = some (.int .i64 p2.sw) ∧ w'.cell? ⟨w.heap.size + 1, 8, none⟩ = some (.slice p2.a p2.len p2.cap)) (exact ⟨keepc (by go_grown) hl1 s0, keepc (by go_grown) hl1 s1, keepc (by go_grown) hl1 s2, keepc (by go_grown) hl1 s3, keepc (by go_grown) hl1 s4, keepc (by go_grown) hl1 s5, keepc (by go_grown) hl1 s6, keepc (by go_grown) hl1 s7, keepc (by go_grown) hl1 s8⟩) (fail)
  all_goals
   go_wp2_with fail
   go_meet
   refine ⟨_, _, _, rfl, rfl, rfl, ?_, ?_, ?_, ?_, ?_, ?_, ?_, ?_, ?_, ?_, ?_, ?_, ?_⟩
   all_goals first | (simp; done) | (simp; omega) | exact cell3_0 _ _ _ _ _ _ | exact cell3_1 _ _ _ _ _ _ | exact cell3_2 _ _ _ _ _ _ | (go_grown; done)
 case rest =>
  obtain ⟨g5, g6, g7, rfl, rfl, rfl, ⟨m5, l5⟩, ⟨m6, l6⟩, ⟨m7, l7⟩, e0_0, e0_1, e0_2, e1_0, e1_1, e1_2, e2_0, e2_1, e2_2, hB⟩ := hcut
  clear s0 s1 s2 s3 s4 s5 s6 s7 s8
  have HBW := hid (show Below w.heap.size w wc from HB0.out.trans (hB.mono HB0.out.size))
  have HK := hid (show wc.heap[w.heap.size]? = some (.cells #[.int .i64 x.kind, .int .i64 x.a, .int .i64 x.b, .int .i64 x.c, .int .i64 x.n, .int .i64 x.m, .int .i64 x.si, .int .i64 x.sw, .string x.name] 111 (0, 0)) from (hB.block _ (by omega)).trans HK0.out)
  have n0 := cell_of_block (i := 0) HK.out (v := .int .i64 x.kind) rfl
  have hlw : w.heap.size < wc.heap.size := by have := hB.size; omega
  clear hB HK0
  go_wp2_with fail
  refine (c_kindFamily2 x.kind wc HN0.out HN1.out HY.out).mono ?_
  rintro e w1 ⟨rfl, hq⟩
  have HB1 := hid (HBW.out.trans (hq.mono HBW.out.size))
  have HK1 := hid ((hq.block _ hlw).trans HK.out)
  have hl1w : w.heap.size < w1.heap.size := Nat.lt_of_lt_of_le hlw hq.size
  have hsz1 := hq.size
  have f0_0 := keepc hq l5 e0_0
  have f0_1 := keepc hq l5 e0_1
  have f0_2 := keepc hq l5 e0_2
  have f1_0 := keepc hq l6 e1_0
  have f1_1 := keepc hq l6 e1_1
  have f1_2 := keepc hq l6 e1_2
  have f2_0 := keepc hq l7 e2_0
  have f2_1 := keepc hq l7 e2_1
  have f2_2 := keepc hq l7 e2_2
  clear hq n0 e0_0 e0_1 e0_2 e1_0 e1_1 e1_2 e2_0 e2_1 e2_2 HK HBW
  have q0 := cell_of_block (i := 0) HK1.out (v := .int .i64 x.kind) rfl
  have q1 := cell_of_block (i := 1) HK1.out (v := .int .i64 x.a) rfl
  have q2 := cell_of_block (i := 2) HK1.out (v := .int .i64 x.b) rfl
  have q3 := cell_of_block (i := 3) HK1.out (v := .int .i64 x.c) rfl
  have q4 := cell_of_block (i := 4) HK1.out (v := .int .i64 x.n) rfl
  have q5 := cell_of_block (i := 5) HK1.out (v := .int .i64 x.m) rfl
  have q6 := cell_of_block (i := 6) HK1.out (v := .int .i64 x.si) rfl
  have q7 := cell_of_block (i := 7) HK1.out (v := .int .i64 x.sw) rfl
  have q8 := cell_of_block (i := 8) HK1.out (v := .string x.name) rfl
  have ha0 := ta2_0 w1
  have ha1 := ta2_1 w1
  have ha2 := ta2_2 w1
  go_upto_region 11 with fail
  clear ha0 ha1 ha2
  refine code_gen (R := fun wb => Below w1.heap.size w1 wb) (by go_grown) ?_
  intro w9 hq9
  replace f0_0 := keepc hq9 (Nat.lt_of_lt_of_le l5 hsz1) f0_0
  replace f0_1 := keepc hq9 (Nat.lt_of_lt_of_le l5 hsz1) f0_1
  replace f0_2 := keepc hq9 (Nat.lt_of_lt_of_le l5 hsz1) f0_2
  replace f1_0 := keepc hq9 (Nat.lt_of_lt_of_le l6 hsz1) f1_0
  replace f1_1 := keepc hq9 (Nat.lt_of_lt_of_le l6 hsz1) f1_1
  replace f1_2 := keepc hq9 (Nat.lt_of_lt_of_le l6 hsz1) f1_2
  replace f2_0 := keepc hq9 (Nat.lt_of_lt_of_le l7 hsz1) f2_0
  replace f2_1 := keepc hq9 (Nat.lt_of_lt_of_le l7 hsz1) f2_1
  replace f2_2 := keepc hq9 (Nat.lt_of_lt_of_le l7 hsz1) f2_2
  replace q0 := keepc hq9 hl1w q0
  replace q1 := keepc hq9 hl1w q1
  replace q2 := keepc hq9 hl1w q2
  replace q3 := keepc hq9 hl1w q3
  replace q4 := keepc hq9 hl1w q4
  replace q5 := keepc hq9 hl1w q5
  replace q6 := keepc hq9 hl1w q6
  replace q7 := keepc hq9 hl1w q7
  replace q8 := keepc hq9 hl1w q8
  have HB9 := hid (HB1.out.trans (hq9.mono HB1.out.size))
  clear HB1 hq9
  have HB1 := HB9
  go_wp2_with fail
  refine (hcall _ HB1.out).mono ?_
  rintro e w2 ⟨rfl, hq⟩
  have HB2 := hid (HB1.out.trans (hq.mono HB1.out.size))
  have HE := hid (Below.alloc HB2.out HB2.out.size (.cells #[.int .i64 z] 3))
  clear hq f0_0 f0_1 f0_2 f1_0 f1_1 f1_2 f2_0 f2_1 f2_2 q0 q1 q2 q3 q4 q5 q6 q7 q8
  go_wp2_with fail
  go_ret
  exact ⟨_, rfl, own_lit HB2.out.size (MapKept.heap_alloc _ _).1 hz, HE.out⟩
set_option maxHeartbeats 16000000 in
theorem c_reckonShape (x : ND) (p0 p1 p2 : PT) (w : World) (n0 : fam0 x.kind = false) (n1 : fam1 x.kind = false) (n2 : fam2 x.kind = false) (y3 : fam3 x.kind = true) (z : Int) (hcall : ∀ wq, Below w.heap.size w wq → Calls Tryz.prog 134 #[.agg #[], .agg x.cells.toArray, .agg p0.cells, .agg p1.cells] wq fun e w' => e = .returned (.int .i64 z) ∧ Below wq.heap.size wq w') (hz : fits z) :
  Calls Tryz.prog 91 #[.agg x.cells.toArray, .agg (parts9 p0 p1 p2)] w (ClnP [z] w) := by
 have HN0 := hid n0
 clear n0
 have HN1 := hid n1
 clear n1
 have HN2 := hid n2
 clear n2
 have HY := hid y3
 clear y3
 simp only [ND.cells, parts9]
 go_enter Tryz.func91, Tryz.ntmps91
 go_upto_region 1 with fail
 refine code_gen (R := fun wb => wb.heap[w.heap.size]? = some (.cells #[.int .i64 x.kind, .int .i64 x.a, .int .i64 x.b, .int .i64 x.c, .int .i64 x.n, .int .i64 x.m, .int .i64 x.si, .int .i64 x.sw, .string x.name] 111 (0, 0)) ∧ wb.heap[w.heap.size + 1]? = some (.cells #[.int .i64 p0.si, .int .i64 p0.sw, .slice p0.a p0.len p0.cap, .int .i64 p1.si, .int .i64 p1.sw, .slice p1.a p1.len p1.cap, .int .i64 p2.si, .int .i64 p2.sw, .slice p2.a p2.len p2.cap] 124 (0, 0)) ∧ Below w.heap.size w wb) ⟨(heap2 _ _ _).1, (heap2 _ _ _).2, by go_grown⟩ ?_
 rintro W ⟨k0, k1, hB0⟩
 have HB0 := hid hB0
 have HK0 := hid k0
 have hl1 : w.heap.size + 1 < W.heap.size := (Array.getElem?_eq_some_iff.1 k1).1
 have s0 := cell_of_block (i := 0) k1 (v := .int .i64 p0.si) rfl
 have s1 := cell_of_block (i := 1) k1 (v := .int .i64 p0.sw) rfl
 have s2 := cell_of_block (i := 2) k1 (v := .slice p0.a p0.len p0.cap) rfl
 have s3 := cell_of_block (i := 3) k1 (v := .int .i64 p1.si) rfl
 have s4 := cell_of_block (i := 4) k1 (v := .int .i64 p1.sw) rfl
 have s5 := cell_of_block (i := 5) k1 (v := .slice p1.a p1.len p1.cap) rfl
 have s6 := cell_of_block (i := 6) k1 (v := .int .i64 p2.si) rfl
 have s7 := cell_of_block (i := 7) k1 (v := .int .i64 p2.sw) rfl
 have s8 := cell_of_block (i := 8) k1 (v := .slice p2.a p2.len p2.cap) rfl
 clear hB0 k0 k1
 go_cut [5, 6, 7] (fun s5 s6 s7 wx => CutP W.heap.size W p0 p1 p2 s5 s6 s7 wx)
 case first =>
  go_region_held3 (fun w' => w'.cell? ⟨w.heap.size + 1, 0, none⟩ = some (.int .i64 p0.si) ∧ w'.cell? ⟨w.heap.size + 1, 1, none⟩ = some (.int .i64 p0.sw) ∧ w'.cell? ⟨w.heap.size + 1, 2, none⟩ = some (.slice p0.a p0.len p0.cap) ∧ w'.cell? ⟨w.heap.size + 1, 3, none⟩ = some (.int .i64 p1.si) ∧ w'.cell? ⟨w.heap.size + 1, 4, none⟩ = some (.int .i64 p1.sw) ∧ w'.cell? ⟨w.heap.size + 1, 5, none⟩ = some (.slice p1.a p1.len p1.cap) ∧ w'.cell? ⟨w.heap.size + 1, 6, none⟩ = some (.int .i64 p2.si) ∧ w'.cell? ⟨w.heap.size + 1, 7, none⟩ = some (.int .i64 p2.sw) ∧ w'.cell? ⟨w.heap.size + 1, 8, none⟩ = some (.slice p2.a p2.len p2.cap)) (exact ⟨keepc (by go_grown) hl1 s0, keepc (by go_grown) hl1 s1, keepc (by go_grown) hl1 s2, keepc (by go_grown) hl1 s3, keepc (by go_grown) hl1 s4, keepc (by go_grown) hl1 s5, keepc (by go_grown) hl1 s6, keepc (by go_grown) hl1 s7, keepc (by go_grown) hl1 s8⟩) (fail)
  all_goals
   go_wp2_with fail
   go_meet
   refine ⟨_, _, _, rfl, rfl, rfl, ?_, ?_, ?_, ?_, ?_, ?_, ?_, ?_, ?_, ?_, ?_, ?_, ?_⟩
   all_goals first | (simp; done) | (simp; omega) | exact cell3_0 _ _ _ _ _ _ | exact cell3_1 _ _ _ _ _ _ | exact cell3_2 _ _ _ _ _ _ | (go_grown; done)
 case rest =>
  obtain ⟨g5, g6, g7, rfl, rfl, rfl, ⟨m5, l5⟩, ⟨m6, l6⟩, ⟨m7, l7⟩, e0_0, e0_1, e0_2, e1_0, e1_1, e1_2, e2_0, e2_1, e2_2, hB⟩ := hcut
  clear s0 s1 s2 s3 s4 s5 s6 s7 s8
  have HBW := hid (show Below w.heap.size w wc from HB0.out.trans (hB.mono HB0.out.size))
  have HK := hid (show wc.heap[w.heap.size]? = some (.cells #[.int .i64 x.kind, .int .i64 x.a, .int .i64 x.b, .int .i64 x.c, .int .i64 x.n, .int .i64 x.m, .int .i64 x.si, .int .i64 x.sw, .string x.name] 111 (0, 0)) from (hB.block _ (by omega)).trans HK0.out)
  have n0 := cell_of_block (i := 0) HK.out (v := .int .i64 x.kind) rfl
  have hlw : w.heap.size < wc.heap.size := by have := hB.size; omega
  clear hB HK0
  go_wp2_with fail
  refine (c_kindFamily3 x.kind wc HN0.out HN1.out HN2.out HY.out).mono ?_
  rintro e w1 ⟨rfl, hq⟩
  have HB1 := hid (HBW.out.trans (hq.mono HBW.out.size))
  have HK1 := hid ((hq.block _ hlw).trans HK.out)
  have hl1w : w.heap.size < w1.heap.size := Nat.lt_of_lt_of_le hlw hq.size
  have hsz1 := hq.size
  have f0_0 := keepc hq l5 e0_0
  have f0_1 := keepc hq l5 e0_1
  have f0_2 := keepc hq l5 e0_2
  have f1_0 := keepc hq l6 e1_0
  have f1_1 := keepc hq l6 e1_1
  have f1_2 := keepc hq l6 e1_2
  have f2_0 := keepc hq l7 e2_0
  have f2_1 := keepc hq l7 e2_1
  have f2_2 := keepc hq l7 e2_2
  clear hq n0 e0_0 e0_1 e0_2 e1_0 e1_1 e1_2 e2_0 e2_1 e2_2 HK HBW
  have q0 := cell_of_block (i := 0) HK1.out (v := .int .i64 x.kind) rfl
  have q1 := cell_of_block (i := 1) HK1.out (v := .int .i64 x.a) rfl
  have q2 := cell_of_block (i := 2) HK1.out (v := .int .i64 x.b) rfl
  have q3 := cell_of_block (i := 3) HK1.out (v := .int .i64 x.c) rfl
  have q4 := cell_of_block (i := 4) HK1.out (v := .int .i64 x.n) rfl
  have q5 := cell_of_block (i := 5) HK1.out (v := .int .i64 x.m) rfl
  have q6 := cell_of_block (i := 6) HK1.out (v := .int .i64 x.si) rfl
  have q7 := cell_of_block (i := 7) HK1.out (v := .int .i64 x.sw) rfl
  have q8 := cell_of_block (i := 8) HK1.out (v := .string x.name) rfl
  have ha0 := ta3_0 w1
  have ha1 := ta3_1 w1
  have ha2 := ta3_2 w1
  have ha3 := ta3_3 w1
  go_upto_region 14 with fail
  clear ha0 ha1 ha2 ha3
  refine code_gen (R := fun wb => Below w1.heap.size w1 wb) (by go_grown) ?_
  intro w9 hq9
  replace f0_0 := keepc hq9 (Nat.lt_of_lt_of_le l5 hsz1) f0_0
  replace f0_1 := keepc hq9 (Nat.lt_of_lt_of_le l5 hsz1) f0_1
  replace f0_2 := keepc hq9 (Nat.lt_of_lt_of_le l5 hsz1) f0_2
  replace f1_0 := keepc hq9 (Nat.lt_of_lt_of_le l6 hsz1) f1_0
  replace f1_1 := keepc hq9 (Nat.lt_of_lt_of_le l6 hsz1) f1_1
  replace f1_2 := keepc hq9 (Nat.lt_of_lt_of_le l6 hsz1) f1_2
  replace f2_0 := keepc hq9 (Nat.lt_of_lt_of_le l7 hsz1) f2_0
  replace f2_1 := keepc hq9 (Nat.lt_of_lt_of_le l7 hsz1) f2_1
  replace f2_2 := keepc hq9 (Nat.lt_of_lt_of_le l7 hsz1) f2_2
  replace q0 := keepc hq9 hl1w q0
  replace q1 := keepc hq9 hl1w q1
  replace q2 := keepc hq9 hl1w q2
  replace q3 := keepc hq9 hl1w q3
  replace q4 := keepc hq9 hl1w q4
  replace q5 := keepc hq9 hl1w q5
  replace q6 := keepc hq9 hl1w q6
  replace q7 := keepc hq9 hl1w q7
  replace q8 := keepc hq9 hl1w q8
  have HB9 := hid (HB1.out.trans (hq9.mono HB1.out.size))
  clear HB1 hq9
  have HB1 := HB9
  go_wp2_with fail
  refine (hcall _ HB1.out).mono ?_
  rintro e w2 ⟨rfl, hq⟩
  have HB2 := hid (HB1.out.trans (hq.mono HB1.out.size))
  have HE := hid (Below.alloc HB2.out HB2.out.size (.cells #[.int .i64 z] 3))
  clear hq f0_0 f0_1 f0_2 f1_0 f1_1 f1_2 f2_0 f2_1 f2_2 q0 q1 q2 q3 q4 q5 q6 q7 q8
  go_wp2_with fail
  go_ret
  exact ⟨_, rfl, own_lit HB2.out.size (MapKept.heap_alloc _ _).1 hz, HE.out⟩
set_option maxHeartbeats 16000000 in
theorem c_reckonCell (x : ND) (p0 p1 p2 : PT) (w : World) (n0 : fam0 x.kind = false) (n1 : fam1 x.kind = false) (n2 : fam2 x.kind = false) (n3 : fam3 x.kind = false) (y4 : fam4 x.kind = true) (zs : List Int) (hcall : ∀ wq, Below w.heap.size w wq → Calls Tryz.prog 135 #[.agg #[], .int .i64 x.kind, .agg p0.cells, .agg p1.cells, .agg p2.cells] wq (ClnP zs wq)) :
  Calls Tryz.prog 91 #[.agg x.cells.toArray, .agg (parts9 p0 p1 p2)] w (ClnP zs w) := by
 have HN0 := hid n0
 clear n0
 have HN1 := hid n1
 clear n1
 have HN2 := hid n2
 clear n2
 have HN3 := hid n3
 clear n3
 have HY := hid y4
 clear y4
 simp only [ND.cells, parts9]
 go_enter Tryz.func91, Tryz.ntmps91
 go_upto_region 1 with fail
 refine code_gen (R := fun wb => wb.heap[w.heap.size]? = some (.cells #[.int .i64 x.kind, .int .i64 x.a, .int .i64 x.b, .int .i64 x.c, .int .i64 x.n, .int .i64 x.m, .int .i64 x.si, .int .i64 x.sw, .string x.name] 111 (0, 0)) ∧ wb.heap[w.heap.size + 1]? = some (.cells #[.int .i64 p0.si, .int .i64 p0.sw, .slice p0.a p0.len p0.cap, .int .i64 p1.si, .int .i64 p1.sw, .slice p1.a p1.len p1.cap, .int .i64 p2.si, .int .i64 p2.sw, .slice p2.a p2.len p2.cap] 124 (0, 0)) ∧ Below w.heap.size w wb) ⟨(heap2 _ _ _).1, (heap2 _ _ _).2, by go_grown⟩ ?_
 rintro W ⟨k0, k1, hB0⟩
 have HB0 := hid hB0
 have HK0 := hid k0
 have hl1 : w.heap.size + 1 < W.heap.size := (Array.getElem?_eq_some_iff.1 k1).1
 have s0 := cell_of_block (i := 0) k1 (v := .int .i64 p0.si) rfl
 have s1 := cell_of_block (i := 1) k1 (v := .int .i64 p0.sw) rfl
 have s2 := cell_of_block (i := 2) k1 (v := .slice p0.a p0.len p0.cap) rfl
 have s3 := cell_of_block (i := 3) k1 (v := .int .i64 p1.si) rfl
 have s4 := cell_of_block (i := 4) k1 (v := .int .i64 p1.sw) rfl
 have s5 := cell_of_block (i := 5) k1 (v := .slice p1.a p1.len p1.cap) rfl
 have s6 := cell_of_block (i := 6) k1 (v := .int .i64 p2.si) rfl
 have s7 := cell_of_block (i := 7) k1 (v := .int .i64 p2.sw) rfl
 have s8 := cell_of_block (i := 8) k1 (v := .slice p2.a p2.len p2.cap) rfl
 clear hB0 k0 k1
 go_cut [5, 6, 7] (fun s5 s6 s7 wx => CutP W.heap.size W p0 p1 p2 s5 s6 s7 wx)
 case first =>
  go_region_held3 (fun w' => w'.cell? ⟨w.heap.size + 1, 0, none⟩ = some (.int .i64 p0.si) ∧ w'.cell? ⟨w.heap.size + 1, 1, none⟩ = some (.int .i64 p0.sw) ∧ w'.cell? ⟨w.heap.size + 1, 2, none⟩ = some (.slice p0.a p0.len p0.cap) ∧ w'.cell? ⟨w.heap.size + 1, 3, none⟩ = some (.int .i64 p1.si) ∧ w'.cell? ⟨w.heap.size + 1, 4, none⟩ = some (.int .i64 p1.sw) ∧ w'.cell? ⟨w.heap.size + 1, 5, none⟩ = some (.slice p1.a p1.len p1.cap) ∧ w'.cell? ⟨w.heap.size + 1, 6, none⟩ = some (.int .i64 p2.si) ∧ w'.cell? ⟨w.heap.size + 1, 7, none⟩ = some (.int .i64 p2.sw) ∧ w'.cell? ⟨w.heap.size + 1, 8, none⟩ = some (.slice p2.a p2.len p2.cap)) (exact ⟨keepc (by go_grown) hl1 s0, keepc (by go_grown) hl1 s1, keepc (by go_grown) hl1 s2, keepc (by go_grown) hl1 s3, keepc (by go_grown) hl1 s4, keepc (by go_grown) hl1 s5, keepc (by go_grown) hl1 s6, keepc (by go_grown) hl1 s7, keepc (by go_grown) hl1 s8⟩) (fail)
  all_goals
   go_wp2_with fail
   go_meet
   refine ⟨_, _, _, rfl, rfl, rfl, ?_, ?_, ?_, ?_, ?_, ?_, ?_, ?_, ?_, ?_, ?_, ?_, ?_⟩
   all_goals first | (simp; done) | (simp; omega) | exact cell3_0 _ _ _ _ _ _ | exact cell3_1 _ _ _ _ _ _ | exact cell3_2 _ _ _ _ _ _ | (go_grown; done)
 case rest =>
  obtain ⟨g5, g6, g7, rfl, rfl, rfl, ⟨m5, l5⟩, ⟨m6, l6⟩, ⟨m7, l7⟩, e0_0, e0_1, e0_2, e1_0, e1_1, e1_2, e2_0, e2_1, e2_2, hB⟩ := hcut
  clear s0 s1 s2 s3 s4 s5 s6 s7 s8
  have HBW := hid (show Below w.heap.size w wc from HB0.out.trans (hB.mono HB0.out.size))
  have HK := hid (show wc.heap[w.heap.size]? = some (.cells #[.int .i64 x.kind, .int .i64 x.a, .int .i64 x.b, .int .i64 x.c, .int .i64 x.n, .int .i64 x.m, .int .i64 x.si, .int .i64 x.sw, .string x.name] 111 (0, 0)) from (hB.block _ (by omega)).trans HK0.out)
  have n0 := cell_of_block (i := 0) HK.out (v := .int .i64 x.kind) rfl
  have hlw : w.heap.size < wc.heap.size := by have := hB.size; omega
  clear hB HK0
  go_wp2_with fail
  refine (c_kindFamily4 x.kind wc HN0.out HN1.out HN2.out HN3.out HY.out).mono ?_
  rintro e w1 ⟨rfl, hq⟩
  have HB1 := hid (HBW.out.trans (hq.mono HBW.out.size))
  have HK1 := hid ((hq.block _ hlw).trans HK.out)
  have hl1w : w.heap.size < w1.heap.size := Nat.lt_of_lt_of_le hlw hq.size
  have hsz1 := hq.size
  have f0_0 := keepc hq l5 e0_0
  have f0_1 := keepc hq l5 e0_1
  have f0_2 := keepc hq l5 e0_2
  have f1_0 := keepc hq l6 e1_0
  have f1_1 := keepc hq l6 e1_1
  have f1_2 := keepc hq l6 e1_2
  have f2_0 := keepc hq l7 e2_0
  have f2_1 := keepc hq l7 e2_1
  have f2_2 := keepc hq l7 e2_2
  clear hq n0 e0_0 e0_1 e0_2 e1_0 e1_1 e1_2 e2_0 e2_1 e2_2 HK HBW
  have q0 := cell_of_block (i := 0) HK1.out (v := .int .i64 x.kind) rfl
  have q1 := cell_of_block (i := 1) HK1.out (v := .int .i64 x.a) rfl
  have q2 := cell_of_block (i := 2) HK1.out (v := .int .i64 x.b) rfl
  have q3 := cell_of_block (i := 3) HK1.out (v := .int .i64 x.c) rfl
  have q4 := cell_of_block (i := 4) HK1.out (v := .int .i64 x.n) rfl
  have q5 := cell_of_block (i := 5) HK1.out (v := .int .i64 x.m) rfl
  have q6 := cell_of_block (i := 6) HK1.out (v := .int .i64 x.si) rfl
  have q7 := cell_of_block (i := 7) HK1.out (v := .int .i64 x.sw) rfl
  have q8 := cell_of_block (i := 8) HK1.out (v := .string x.name) rfl
  have ha0 := ta4_0 w1
  have ha1 := ta4_1 w1
  have ha2 := ta4_2 w1
  have ha3 := ta4_3 w1
  have ha4 := ta4_4 w1
  go_upto_region 17 with fail
  clear ha0 ha1 ha2 ha3 ha4
  refine code_gen (R := fun wb => Below w1.heap.size w1 wb) (by go_grown) ?_
  intro w9 hq9
  replace f0_0 := keepc hq9 (Nat.lt_of_lt_of_le l5 hsz1) f0_0
  replace f0_1 := keepc hq9 (Nat.lt_of_lt_of_le l5 hsz1) f0_1
  replace f0_2 := keepc hq9 (Nat.lt_of_lt_of_le l5 hsz1) f0_2
  replace f1_0 := keepc hq9 (Nat.lt_of_lt_of_le l6 hsz1) f1_0
  replace f1_1 := keepc hq9 (Nat.lt_of_lt_of_le l6 hsz1) f1_1
  replace f1_2 := keepc hq9 (Nat.lt_of_lt_of_le l6 hsz1) f1_2
  replace f2_0 := keepc hq9 (Nat.lt_of_lt_of_le l7 hsz1) f2_0
  replace f2_1 := keepc hq9 (Nat.lt_of_lt_of_le l7 hsz1) f2_1
  replace f2_2 := keepc hq9 (Nat.lt_of_lt_of_le l7 hsz1) f2_2
  replace q0 := keepc hq9 hl1w q0
  replace q1 := keepc hq9 hl1w q1
  replace q2 := keepc hq9 hl1w q2
  replace q3 := keepc hq9 hl1w q3
  replace q4 := keepc hq9 hl1w q4
  replace q5 := keepc hq9 hl1w q5
  replace q6 := keepc hq9 hl1w q6
  replace q7 := keepc hq9 hl1w q7
  replace q8 := keepc hq9 hl1w q8
  have HB9 := hid (HB1.out.trans (hq9.mono HB1.out.size))
  clear HB1 hq9
  have HB1 := HB9
  go_wp2_with fail
  refine (hcall _ HB1.out).mono ?_
  rintro e w2 ⟨y, rfl, hoy, hq⟩
  have HB2 := hid (HB1.out.trans (hq.mono HB1.out.size))
  have HOY := hid (World.ownsInts.mono' hoy HB1.out.size)
  clear hq hoy f0_0 f0_1 f0_2 f1_0 f1_1 f1_2 f2_0 f2_1 f2_2 q0 q1 q2 q3 q4 q5 q6 q7 q8
  go_wp2_with fail
  go_ret
  exact ⟨_, rfl, HOY.out, HB2.out⟩
end Go.Proofs.YtlcgimadbpagfaaGreat
