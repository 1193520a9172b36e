/-
  The program's functions that give a diagram.
-/
import Derived.Test.YthdofdglbdfkkaaDoorRows
import Derived.Test.YthdofdglbdfkkaaDoorFoY
import Derived.Test.YthdofdglbdfkkaaDoorFoZ
import Derived.WalkKit
import Derived.ProofKit
import Derived.OpenShut
import Derived.WalkSpells
import Derived.WalkLawsBesides
import Derived.Outline
import Derived.BigQuiet
import Derived.Handy
import Derived.LoopTactic
import Derived.Deep.Light
import Derived.Deep.RegionWith
import Derived.Deep.RegionHeld3
import Derived.Deep.DeepCutAuto
import Derived.Lib.Hide
import Derived.Maps.OwnRows
import Derived.Deep.Onto
import Derived.OneCell
import Derived.StillTailTactics
import Derived.Deep.AppendLies
import Derived.Deep.RegionLaw
namespace Go.Proofs.YthdofdglbdfkkaaDoor
open Go.ChangeShapes Go.WideShapes Go.ChangeAt Go.RowKit Go.Maps Go.ChangeMaps
set_option linter.unusedVariables false
set_option maxRecDepth 100000

/-- An answer under a condition, nothing else. -/
def CondR (P : Prop) (vars : Int) (f : Int → Bool) (V : Int) (ms : List BN) (R : Int) (b : Bool) : Prop :=
  (P ∧ AnsR vars f V ms R b) ∨ (¬ P ∧ V = 0 ∧ ms = [] ∧ R = 0 ∧ b = false)
theorem CondR.inj {P : Prop} {vars : Int} {f : Int → Bool} (hP : P → 0 ≤ vars) {V V' : Int} {ms ms' : List BN} {R R' : Int} {b b' : Bool} (h : CondR P vars f V ms R b) (k : CondR P vars f V' ms' R' b') : V = V' ∧ ms = ms' ∧ R = R' ∧ b = b' := by
  rcases h with ⟨h0, h1⟩ | ⟨h0, rfl, rfl, rfl, rfl⟩ <;> rcases k with ⟨k0, k1⟩ | ⟨k0, rfl, rfl, rfl, rfl⟩
  · exact h1.inj (hP h0) k1
  · exact absurd h0 k0
  · exact absurd k0 h0
  · exact ⟨rfl, rfl, rfl, rfl⟩
theorem CondR.len {P : Prop} {vars : Int} {f : Int → Bool} {V : Int} {ms : List BN} {R : Int} {b : Bool} (h : CondR P vars f V ms R b) : ms.length ≤ 600 := by
  rcases h with ⟨h0, h1⟩ | ⟨h0, -, rfl, -, -⟩
  · exact h1.len
  · decide
/-- The variable of a value that is laid at the start is there. -/
def Glob (w : World) : Prop := 0 < w.heap.size ∧ ∃ u x, w.cell? ⟨0, 0, none⟩ = some (.iface u x)
theorem Glob.below {w w' : World} (h : Glob w) (hb : Below w.heap.size w w') : Glob w' := by
  obtain ⟨h0, u, x, hc⟩ := h
  exact ⟨Nat.lt_of_lt_of_le h0 hb.size, u, x, keepc hb h0 hc⟩
theorem al2 (w : World) (o0 o1 : Obj) : ((w.alloc o0).alloc o1).heap[w.heap.size]? = some o0 ∧ ((w.alloc o0).alloc o1).heap[w.heap.size + 1]? = some o1 := by
  refine ⟨?_, ?_⟩ <;> (show ((w.heap.push o0).push o1)[_]? = _; simp only [Array.getElem?_push, Array.size_push]; repeat (first | rw [if_pos trivial] | rw [if_pos rfl] | rw [if_neg (by omega)]))
theorem al3 (w : World) (o0 o1 o2 : Obj) : (((w.alloc o0).alloc o1).alloc o2).heap[w.heap.size]? = some o0 ∧ (((w.alloc o0).alloc o1).alloc o2).heap[w.heap.size + 1]? = some o1 ∧ (((w.alloc o0).alloc o1).alloc o2).heap[w.heap.size + 2]? = some o2 := by
  refine ⟨?_, ?_, ?_⟩ <;> (show (((w.heap.push o0).push o1).push o2)[_]? = _; simp only [Array.getElem?_push, Array.size_push]; repeat (first | rw [if_pos trivial] | rw [if_pos rfl] | rw [if_neg (by omega)]))
theorem al4 (w : World) (o0 o1 o2 o3 : Obj) : ((((w.alloc o0).alloc o1).alloc o2).alloc o3).heap[w.heap.size]? = some o0 ∧ ((((w.alloc o0).alloc o1).alloc o2).alloc o3).heap[w.heap.size + 1]? = some o1 ∧ ((((w.alloc o0).alloc o1).alloc o2).alloc o3).heap[w.heap.size + 2]? = some o2 ∧ ((((w.alloc o0).alloc o1).alloc o2).alloc o3).heap[w.heap.size + 3]? = some o3 := by
  refine ⟨?_, ?_, ?_, ?_⟩ <;> (show ((((w.heap.push o0).push o1).push o2).push o3)[_]? = _; simp only [Array.getElem?_push, Array.size_push]; repeat (first | rw [if_pos trivial] | rw [if_pos rfl] | rw [if_neg (by omega)]))
theorem blk_lt {w : World} {g : Nat} {o : Obj} (h : w.heap[g]? = some o) : g < w.heap.size := (Array.getElem?_eq_some_iff.1 h).1
theorem blk_keep {w w' : World} {g : Nat} {o : Obj} (h : w.heap[g]? = some o) (hb : Below w.heap.size w w') : w'.heap[g]? = some o := (hb.block _ (blk_lt h)).trans h
theorem cap_box {vars root : Int} {a : Option Addr} {len cap c : Nat} {w : World} (h : w.heap[c]? = some (.cells #[.int .i64 vars, .slice a len cap, .int .i64 root] 25 (0, 0))) : CapB w.heap.size c vars a len cap root w :=
  ⟨blk_lt h, cell_of_block (i := 0) h rfl, cell_of_block (i := 1) h rfl, cell_of_block (i := 2) h rfl⟩
theorem CapB.below {B c : Nat} {vars root : Int} {a : Option Addr} {len cap : Nat} {w w' : World} (h : CapB B c vars a len cap root w) (hb : Below B w w') : CapB B c vars a len cap root w' :=
  ⟨h.lt, kc hb h.lt h.c0, kc hb h.lt h.c1, kc hb h.lt h.c2⟩
theorem calls_BddVar : ∀ args u, (callFunc 47 args).run Tryd.prog u = .ok (.enter 47 args) u := fun args u => rfl
theorem calls_BddNot : ∀ args u, (callFunc 70 args).run Tryd.prog u = .ok (.enter 70 args) u := fun args u => rfl
theorem calls_bddOfPair : ∀ args u, (callFunc 88 args).run Tryd.prog u = .ok (.enter 88 args) u := fun args u => rfl
theorem calls_BddIf : ∀ args u, (callFunc 39 args).run Tryd.prog u = .ok (.enter 39 args) u := fun args u => rfl
theorem calls_BddFix : ∀ args u, (callFunc 59 args).run Tryd.prog u = .ok (.enter 59 args) u := fun args u => rfl
theorem calls_BddSome : ∀ args u, (callFunc 54 args).run Tryd.prog u = .ok (.enter 54 args) u := fun args u => rfl
theorem calls_BddFrom : ∀ args u, (callFunc 63 args).run Tryd.prog u = .ok (.enter 63 args) u := fun args u => rfl

set_option maxHeartbeats 8000000 in
theorem c_BddVarI (vars i : Int) (w : World) (hgl : Glob w) :
    Calls Tryd.prog 12 #[.int .i64 vars, .int .i64 i] w (BddQ (CondR (varsB vars = true ∧ 0 ≤ i ∧ i < vars) vars (fun c => decide (bitN c i = 1))) w) := by
  have HGL := Go.Lib.hid hgl
  clear hgl
  have hmf : ∀ (fn : Fn) (first cap : Array Value) (w : World), (Instr.makeFunc fn first cap).run Tryd.prog w = .ok (.func fn first cap) w := fun _ _ _ _ => rfl
  go_enter Tryd.func12, Tryd.ntmps12
  go_upto_region 1 with fail
  refine code_gen (R := fun wb => wb.heap[w.heap.size]? = some (.cells #[.int .i64 i] 3 (0, 0)) ∧ wb.heap[w.heap.size + 1]? = some (.cells #[.int .i64 0, .slice none 0 0, .int .i64 0] 25 (0, 0)) ∧ Below w.heap.size w wb) ⟨(al2 _ _ _).1, (al2 _ _ _).2, by go_grown⟩ ?_
  rintro w0 ⟨k0, k1, hb0⟩
  have K0_0 := Go.Lib.hid k0
  have K1_0 := Go.Lib.hid k1
  have B_0 := Go.Lib.hid hb0
  have G_0 := Go.Lib.hid (HGL.out.below hb0)
  clear k0 k1 hb0
  have x00 := cell_of_block (i := 0) K0_0.out (v := .int .i64 i) rfl
  have HV := Go.Lib.hid (c_bddVarsOk vars w0)
  have HT := Go.Lib.hid (c_bitOk vars i w0)
  cases hv : varsB vars with
  | false =>
    have HVB := Go.Lib.hid hv
    rw [hv] at HV
    clear hv hmf
    go_wp2_with fail
    refine HV.out.mono ?_
    rintro e w1 ⟨rfl, hw⟩
    cases hw
    have z0 := cell_of_block (i := 0) K1_0.out (v := .int .i64 0) rfl
    have f0 := free_of_block (i := 0) K1_0.out
    have z1 := cell_of_block (i := 1) K1_0.out (v := .slice none 0 0) rfl
    have f1 := free_of_block (i := 1) K1_0.out
    have z2 := cell_of_block (i := 2) K1_0.out (v := .int .i64 0) rfl
    have f2 := free_of_block (i := 2) K1_0.out
    go_wp2_with fail
    refine bodyPost_ret (v := .tuple #[.agg #[.int .i64 0, .slice none 0 0, .int .i64 0], .bool false]) (results_cell_q (p := 4) (q := 5) rfl _ _ (w.heap.size + 1) 25 _ (0, 0) _ rfl rfl (heap_setCell_same _ _ 2 _ _ _ (heap_setCell_same _ _ 1 _ _ _ (heap_setCell_same _ _ 0 _ _ _ K1_0.out))) Tryd.underlying25 rfl (by kernel_rfl)) rfl ⟨_, _, _, _, [], rfl, OwnN.nil _ _, .inr ⟨(fun h => by have h1 := h.1; rw [HVB.out] at h1; cases h1), rfl, rfl, rfl, rfl⟩, ?_⟩
    exact (((B_0.out).setCell (p := ⟨w.heap.size + 1, 0, none⟩) (Nat.le_add_right _ _) _).setCell (p := ⟨w.heap.size + 1, 1, none⟩) (Nat.le_add_right _ _) _).setCell (p := ⟨w.heap.size + 1, 2, none⟩) (Nat.le_add_right _ _) _
  | true =>
    have HVB := Go.Lib.hid hv
    rw [hv] at HV
    clear hv
    cases hb : bitB vars i with
    | false =>
      have HBB := Go.Lib.hid hb
      rw [hb] at HT
      clear hb hmf
      go_wp2_with fail
      refine HV.out.mono ?_
      rintro e w1 ⟨rfl, hw⟩
      cases hw
      go_wp2_with fail
      refine HT.out.mono ?_
      rintro e w1 ⟨rfl, hw⟩
      cases hw
      have z0 := cell_of_block (i := 0) K1_0.out (v := .int .i64 0) rfl
      have f0 := free_of_block (i := 0) K1_0.out
      have z1 := cell_of_block (i := 1) K1_0.out (v := .slice none 0 0) rfl
      have f1 := free_of_block (i := 1) K1_0.out
      have z2 := cell_of_block (i := 2) K1_0.out (v := .int .i64 0) rfl
      have f2 := free_of_block (i := 2) K1_0.out
      go_wp2_with fail
      refine bodyPost_ret (v := .tuple #[.agg #[.int .i64 0, .slice none 0 0, .int .i64 0], .bool false]) (results_cell_q (p := 4) (q := 5) rfl _ _ (w.heap.size + 1) 25 _ (0, 0) _ rfl rfl (heap_setCell_same _ _ 2 _ _ _ (heap_setCell_same _ _ 1 _ _ _ (heap_setCell_same _ _ 0 _ _ _ K1_0.out))) Tryd.underlying25 rfl (by kernel_rfl)) rfl ⟨_, _, _, _, [], rfl, OwnN.nil _ _, .inr ⟨(fun h => of_decide_eq_false HBB.out h.2), rfl, rfl, rfl, rfl⟩, ?_⟩
      exact (((B_0.out).setCell (p := ⟨w.heap.size + 1, 0, none⟩) (Nat.le_add_right _ _) _).setCell (p := ⟨w.heap.size + 1, 1, none⟩) (Nat.le_add_right _ _) _).setCell (p := ⟨w.heap.size + 1, 2, none⟩) (Nat.le_add_right _ _) _
    | true =>
      have HBB := Go.Lib.hid hb
      rw [hb] at HT
      clear hb
      go_wp2_with fail
      refine HV.out.mono ?_
      rintro e w1 ⟨rfl, hw⟩
      cases hw
      go_wp2_with fail
      refine HT.out.mono ?_
      rintro e w1 ⟨rfl, hw⟩
      cases hw
      go_wp2_with fail
      refine (c_bddAnswer (G := 30000) (f := fun c => decide (bitN c i = 1)) (of_decide_eq_true HVB.out).1 (of_decide_eq_true HVB.out).2 w0 G_0.out.2 G_0.out.1 (by decide) calls_BddVar (fun fb mb pb v w1 hf hfb hb => c_BddVar1 (of_decide_eq_true HVB.out).2 i (of_decide_eq_true HBB.out) w1 hf (keepc hb (blk_lt K0_0.out) (cell_of_block (i := 0) K0_0.out rfl)))).mono ?_
      rintro e w2 ⟨x, V, R, bb, ms, rfl, hown, hrel, hq⟩
      have K1_2 := Go.Lib.hid (blk_keep K1_0.out hq)
      have B_2 := Go.Lib.hid (B_0.out.trans (hq.mono B_0.out.size))
      have HKL := Go.Lib.hid (blk_lt K1_0.out)
      have HOW := Go.Lib.hid hown
      have HREL := Go.Lib.hid hrel
      obtain ⟨xa, xc, rfl, -⟩ := OwnN.form hown
      clear hown hrel hq
      have z0 := cell_of_block (i := 0) K1_2.out (v := .int .i64 0) rfl
      have f0 := free_of_block (i := 0) K1_2.out
      have z1 := cell_of_block (i := 1) K1_2.out (v := .slice none 0 0) rfl
      have f1 := free_of_block (i := 1) K1_2.out
      have z2 := cell_of_block (i := 2) K1_2.out (v := .int .i64 0) rfl
      have f2 := free_of_block (i := 2) K1_2.out
      go_wp2_with fail
      refine bodyPost_ret (v := .tuple #[.agg #[.int .i64 V, .slice xa ms.length xc, .int .i64 R], .bool bb]) (results_cell_q (p := 4) (q := 5) rfl _ _ (w.heap.size + 1) 25 _ (0, 0) _ rfl rfl (heap_setCell_same _ _ 2 _ _ _ (heap_setCell_same _ _ 1 _ _ _ (heap_setCell_same _ _ 0 _ _ _ K1_2.out))) Tryd.underlying25 rfl (by kernel_rfl)) rfl ⟨_, _, _, _, ms, rfl, ?_, .inl ⟨⟨HVB.out, of_decide_eq_true HBB.out⟩, HREL.out⟩, ?_⟩
      · exact OwnN.mono (OwnN.block HOW.out (fun y h1 _ _ => by have h2 := HKL.out; rw [heap_setCell_other _ _ _ _ (by show y ≠ w.heap.size + 1; omega), heap_setCell_other _ _ _ _ (by show y ≠ w.heap.size + 1; omega), heap_setCell_other _ _ _ _ (by show y ≠ w.heap.size + 1; omega)])) B_0.out.size
      · exact (((B_2.out).setCell (p := ⟨w.heap.size + 1, 0, none⟩) (Nat.le_add_right _ _) _).setCell (p := ⟨w.heap.size + 1, 1, none⟩) (Nat.le_add_right _ _) _).setCell (p := ⟨w.heap.size + 1, 2, none⟩) (Nat.le_add_right _ _) _

set_option maxHeartbeats 8000000 in
theorem c_BddNotI {B : Nat} {a1 : Option Addr} {len1 cap1 : Nat} {ns1 : List BN} (V1 r1 : Int) (w : World) (hgl : Glob w) (hBw : B ≤ w.heap.size) (hn1 : BnsAt B w a1 len1 cap1 ns1) :
    Calls Tryd.prog 28 #[.agg #[.int .i64 V1, .slice a1 len1 cap1, .int .i64 r1]] w (BddQ (CondR (OkB V1 ns1 r1) V1 (fun c => !evF ns1 r1 c)) w) := by
  have HGL := Go.Lib.hid hgl
  clear hgl
  have hmf : ∀ (fn : Fn) (first cap : Array Value) (w : World), (Instr.makeFunc fn first cap).run Tryd.prog w = .ok (.func fn first cap) w := fun _ _ _ _ => rfl
  have HN1 := Go.Lib.hid hn1
  clear hn1
  go_enter Tryd.func28, Tryd.ntmps28
  go_upto_region 1 with fail
  refine code_gen (R := fun wb => wb.heap[w.heap.size]? = some (.cells #[.int .i64 V1, .slice a1 len1 cap1, .int .i64 r1] 25 (0, 0)) ∧ wb.heap[w.heap.size + 1]? = some (.cells #[.int .i64 0, .slice none 0 0, .int .i64 0] 25 (0, 0)) ∧ Below w.heap.size w wb) ⟨(al2 _ _ _).1, (al2 _ _ _).2, by go_grown⟩ ?_
  rintro w0 ⟨k0, k1, hb0⟩
  have K0_0 := Go.Lib.hid k0
  have K1_0 := Go.Lib.hid k1
  have B_0 := Go.Lib.hid hb0
  have N1_0 := Go.Lib.hid (HN1.out.below (hb0.mono hBw))
  have G_0 := Go.Lib.hid (HGL.out.below hb0)
  have hB_0 : B ≤ w0.heap.size := Nat.le_trans hBw hb0.size
  clear k0 k1 hb0
  have x00 := cell_of_block (i := 0) K0_0.out (v := .int .i64 V1) rfl
  have x01 := cell_of_block (i := 1) K0_0.out (v := .slice a1 len1 cap1) rfl
  have x02 := cell_of_block (i := 2) K0_0.out (v := .int .i64 r1) rfl
  go_wp2_with fail
  refine (c_BddOkI (B := B) V1 r1 w0 hB_0 N1_0.out).mono ?_
  rintro e w1 ⟨hb, hq⟩
  have K0_1 := Go.Lib.hid (blk_keep K0_0.out hq)
  have K1_1 := Go.Lib.hid (blk_keep K1_0.out hq)
  have B_1 := Go.Lib.hid (B_0.out.trans (hq.mono B_0.out.size))
  have N1_1 := Go.Lib.hid (N1_0.out.below (hq.mono hB_0))
  have hB_1 : B ≤ w1.heap.size := Nat.le_trans hB_0 hq.size
  have G_1 := Go.Lib.hid (G_0.out.below hq)
  clear hq x00 x01 x02
  have x00 := cell_of_block (i := 0) K0_1.out (v := .int .i64 V1) rfl
  have x01 := cell_of_block (i := 1) K0_1.out (v := .slice a1 len1 cap1) rfl
  have x02 := cell_of_block (i := 2) K0_1.out (v := .int .i64 r1) rfl
  by_cases ho : OkB V1 ns1 r1
  rotate_left
  · obtain rfl := boolIs_f ho hb
    have HO := Go.Lib.hid ho
    clear ho hb hmf
    have z0 := cell_of_block (i := 0) K1_1.out (v := .int .i64 0) rfl
    have f0 := free_of_block (i := 0) K1_1.out
    have z1 := cell_of_block (i := 1) K1_1.out (v := .slice none 0 0) rfl
    have f1 := free_of_block (i := 1) K1_1.out
    have z2 := cell_of_block (i := 2) K1_1.out (v := .int .i64 0) rfl
    have f2 := free_of_block (i := 2) K1_1.out
    go_wp2_with fail
    refine bodyPost_ret (v := .tuple #[.agg #[.int .i64 0, .slice none 0 0, .int .i64 0], .bool false]) (results_cell_q (p := 2) (q := 3) rfl _ _ (w.heap.size + 1) 25 _ (0, 0) _ rfl rfl (heap_setCell_same _ _ 2 _ _ _ (heap_setCell_same _ _ 1 _ _ _ (heap_setCell_same _ _ 0 _ _ _ K1_1.out))) Tryd.underlying25 rfl (by kernel_rfl)) rfl ⟨_, _, _, _, [], rfl, OwnN.nil _ _, .inr ⟨HO.out, rfl, rfl, rfl, rfl⟩, ?_⟩
    exact (((B_1.out).setCell (p := ⟨w.heap.size + 1, 0, none⟩) (Nat.le_add_right _ _) _).setCell (p := ⟨w.heap.size + 1, 1, none⟩) (Nat.le_add_right _ _) _).setCell (p := ⟨w.heap.size + 1, 2, none⟩) (Nat.le_add_right _ _) _
  obtain rfl := boolIs_t ho hb
  have HO := Go.Lib.hid ho
  clear ho hb
  go_wp2_with fail
  refine (c_bddAnswer (G := 30000) (f := fun c => !evF ns1 r1 c) HO.out.hv.1 HO.out.hv.2 w1 G_1.out.2 G_1.out.1 (by decide) calls_BddNot (fun fb mb pb v w2 hf hfb hb => c_BddNot1 (B := w1.heap.size) w2 hf hfb hb.size ((N1_1.out.mono hB_1).below hb) HO.out ((cap_box K0_1.out).below hb))).mono ?_
  rintro e w2 ⟨x, V, R, bb, ms, rfl, hown, hrel, hq⟩
  have K1_2 := Go.Lib.hid (blk_keep K1_1.out hq)
  have B_2 := Go.Lib.hid (B_1.out.trans (hq.mono B_1.out.size))
  have HKL := Go.Lib.hid (blk_lt K1_1.out)
  have HOW := Go.Lib.hid hown
  have HREL := Go.Lib.hid hrel
  obtain ⟨xa, xc, rfl, -⟩ := OwnN.form hown
  clear hown hrel hq
  have z0 := cell_of_block (i := 0) K1_2.out (v := .int .i64 0) rfl
  have f0 := free_of_block (i := 0) K1_2.out
  have z1 := cell_of_block (i := 1) K1_2.out (v := .slice none 0 0) rfl
  have f1 := free_of_block (i := 1) K1_2.out
  have z2 := cell_of_block (i := 2) K1_2.out (v := .int .i64 0) rfl
  have f2 := free_of_block (i := 2) K1_2.out
  go_wp2_with fail
  refine bodyPost_ret (v := .tuple #[.agg #[.int .i64 V, .slice xa ms.length xc, .int .i64 R], .bool bb]) (results_cell_q (p := 2) (q := 3) rfl _ _ (w.heap.size + 1) 25 _ (0, 0) _ rfl rfl (heap_setCell_same _ _ 2 _ _ _ (heap_setCell_same _ _ 1 _ _ _ (heap_setCell_same _ _ 0 _ _ _ K1_2.out))) Tryd.underlying25 rfl (by kernel_rfl)) rfl ⟨_, _, _, _, ms, rfl, ?_, .inl ⟨HO.out, HREL.out⟩, ?_⟩
  · exact OwnN.mono (OwnN.block HOW.out (fun y h1 _ _ => by have h2 := HKL.out; rw [heap_setCell_other _ _ _ _ (by show y ≠ w.heap.size + 1; omega), heap_setCell_other _ _ _ _ (by show y ≠ w.heap.size + 1; omega), heap_setCell_other _ _ _ _ (by show y ≠ w.heap.size + 1; omega)])) B_1.out.size
  · exact (((B_2.out).setCell (p := ⟨w.heap.size + 1, 0, none⟩) (Nat.le_add_right _ _) _).setCell (p := ⟨w.heap.size + 1, 1, none⟩) (Nat.le_add_right _ _) _).setCell (p := ⟨w.heap.size + 1, 2, none⟩) (Nat.le_add_right _ _) _

def PairP (V1 : Int) (ns1 : List BN) (r1 V2 : Int) (ns2 : List BN) (r2 : Int) : Prop := V1 = V2 ∧ OkB V1 ns1 r1 ∧ OkB V2 ns2 r2
set_option maxHeartbeats 8000000 in
theorem c_bddPairOk {B : Nat} {a1 : Option Addr} {len1 cap1 : Nat} {ns1 : List BN} (V1 r1 : Int) {a2 : Option Addr} {len2 cap2 : Nat} {ns2 : List BN} (V2 r2 : Int) (w : World) (hBw : B ≤ w.heap.size) (hn1 : BnsAt B w a1 len1 cap1 ns1) (hn2 : BnsAt B w a2 len2 cap2 ns2) :
    Calls Tryd.prog 37 #[.agg #[.int .i64 V1, .slice a1 len1 cap1, .int .i64 r1], .agg #[.int .i64 V2, .slice a2 len2 cap2, .int .i64 r2]] w fun e w' => BoolIs (PairP V1 ns1 r1 V2 ns2 r2) e ∧ Below w.heap.size w w' := by
  have HN1 := Go.Lib.hid hn1
  have HN2 := Go.Lib.hid hn2
  clear hn1 hn2
  go_enter Tryd.func37, Tryd.ntmps37
  go_upto_region 1 with fail
  refine code_gen (R := fun wb => wb.heap[w.heap.size]? = some (.cells #[.int .i64 V1, .slice a1 len1 cap1, .int .i64 r1] 25 (0, 0)) ∧ wb.heap[w.heap.size + 1]? = some (.cells #[.int .i64 V2, .slice a2 len2 cap2, .int .i64 r2] 25 (0, 0)) ∧ Below w.heap.size w wb) ⟨(al2 _ _ _).1, (al2 _ _ _).2, by go_grown⟩ ?_
  rintro w0 ⟨k0, k1, hb0⟩
  have K0_0 := Go.Lib.hid k0
  have K1_0 := Go.Lib.hid k1
  have B_0 := Go.Lib.hid hb0
  have N1_0 := Go.Lib.hid (HN1.out.below (hb0.mono hBw))
  have N2_0 := Go.Lib.hid (HN2.out.below (hb0.mono hBw))
  have hB_0 : B ≤ w0.heap.size := Nat.le_trans hBw hb0.size
  clear k0 k1 hb0
  have x00 := cell_of_block (i := 0) K0_0.out (v := .int .i64 V1) rfl
  have x01 := cell_of_block (i := 1) K0_0.out (v := .slice a1 len1 cap1) rfl
  have x02 := cell_of_block (i := 2) K0_0.out (v := .int .i64 r1) rfl
  have x10 := cell_of_block (i := 0) K1_0.out (v := .int .i64 V2) rfl
  have x11 := cell_of_block (i := 1) K1_0.out (v := .slice a2 len2 cap2) rfl
  have x12 := cell_of_block (i := 2) K1_0.out (v := .int .i64 r2) rfl
  by_cases hv : V1 = V2
  rotate_left
  · have hvb : (V1 == V2) = false := by simp [hv]
    have HV := Go.Lib.hid hv
    go_wp2_with fail
    go_ret
    exact ⟨BoolIs.no (fun h => HV.out h.1), B_0.out⟩
  subst hv
  have hvb : (V1 == V1) = true := by simp
  go_wp2_with fail
  refine (c_BddOkI (B := B) V1 r1 w0 hB_0 N1_0.out).mono ?_
  rintro e w1 ⟨hb, hq⟩
  have K0_1 := Go.Lib.hid (blk_keep K0_0.out hq)
  have K1_1 := Go.Lib.hid (blk_keep K1_0.out hq)
  have B_1 := Go.Lib.hid (B_0.out.trans (hq.mono B_0.out.size))
  have N1_1 := Go.Lib.hid (N1_0.out.below (hq.mono hB_0))
  have N2_1 := Go.Lib.hid (N2_0.out.below (hq.mono hB_0))
  have hB_1 : B ≤ w1.heap.size := Nat.le_trans hB_0 hq.size
  clear hq x00 x01 x02 x10 x11 x12
  have x10 := cell_of_block (i := 0) K1_1.out (v := .int .i64 V1) rfl
  have x11 := cell_of_block (i := 1) K1_1.out (v := .slice a2 len2 cap2) rfl
  have x12 := cell_of_block (i := 2) K1_1.out (v := .int .i64 r2) rfl
  by_cases ho : OkB V1 ns1 r1
  rotate_left
  · obtain rfl := boolIs_f ho hb
    have HO := Go.Lib.hid ho
    clear ho hb
    go_wp2_with fail
    go_ret
    exact ⟨BoolIs.no (fun h => HO.out h.2.1), B_1.out⟩
  obtain rfl := boolIs_t ho hb
  have HO := Go.Lib.hid ho
  clear ho hb
  go_wp2_with fail
  refine (c_BddOkI (B := B) V1 r2 w1 hB_1 N2_1.out).mono ?_
  rintro e w2 ⟨⟨r, rfl, hr⟩, hq⟩
  have HR := Go.Lib.hid hr
  have HE := Go.Lib.hid (B_1.out.trans (hq.mono B_1.out.size))
  clear hr hq x10 x11 x12
  go_wp2_with fail
  go_ret
  exact ⟨⟨r, rfl, HR.out.trans ⟨fun h => ⟨rfl, HO.out, h⟩, fun h => h.2.2⟩⟩, HE.out⟩

set_option maxHeartbeats 8000000 in
theorem c_bddOfPair {B : Nat} {a1 : Option Addr} {len1 cap1 : Nat} {ns1 : List BN} (V1 r1 : Int) {a2 : Option Addr} {len2 cap2 : Nat} {ns2 : List BN} (V2 r2 : Int) (r : Int) (hr : isRule r) (w : World) (hgl : Glob w) (hBw : B ≤ w.heap.size) (hn1 : BnsAt B w a1 len1 cap1 ns1) (hn2 : BnsAt B w a2 len2 cap2 ns2) :
    Calls Tryd.prog 60 #[.int .i64 r, .agg #[.int .i64 V1, .slice a1 len1 cap1, .int .i64 r1], .agg #[.int .i64 V2, .slice a2 len2 cap2, .int .i64 r2]] w (BddQ (CondR (PairP V1 ns1 r1 V2 ns2 r2) V1 (fun c => rl r (evF ns1 r1 c) (evF ns2 r2 c))) w) := by
  have HGL := Go.Lib.hid hgl
  have HRU := Go.Lib.hid hr
  clear hgl hr
  have hmf : ∀ (fn : Fn) (first cap : Array Value) (w : World), (Instr.makeFunc fn first cap).run Tryd.prog w = .ok (.func fn first cap) w := fun _ _ _ _ => rfl
  have HN1 := Go.Lib.hid hn1
  have HN2 := Go.Lib.hid hn2
  clear hn1 hn2
  go_enter Tryd.func60, Tryd.ntmps60
  go_upto_region 1 with fail
  refine code_gen (R := fun wb => wb.heap[w.heap.size]? = some (.cells #[.int .i64 r] 73 (0, 0)) ∧ wb.heap[w.heap.size + 1]? = some (.cells #[.int .i64 V1, .slice a1 len1 cap1, .int .i64 r1] 25 (0, 0)) ∧ wb.heap[w.heap.size + 2]? = some (.cells #[.int .i64 V2, .slice a2 len2 cap2, .int .i64 r2] 25 (0, 0)) ∧ wb.heap[w.heap.size + 3]? = some (.cells #[.int .i64 0, .slice none 0 0, .int .i64 0] 25 (0, 0)) ∧ Below w.heap.size w wb) ⟨(al4 _ _ _ _ _).1, (al4 _ _ _ _ _).2.1, (al4 _ _ _ _ _).2.2.1, (al4 _ _ _ _ _).2.2.2, by go_grown⟩ ?_
  rintro w0 ⟨k0, k1, k2, k3, hb0⟩
  have K0_0 := Go.Lib.hid k0
  have K1_0 := Go.Lib.hid k1
  have K2_0 := Go.Lib.hid k2
  have K3_0 := Go.Lib.hid k3
  have B_0 := Go.Lib.hid hb0
  have N1_0 := Go.Lib.hid (HN1.out.below (hb0.mono hBw))
  have N2_0 := Go.Lib.hid (HN2.out.below (hb0.mono hBw))
  have G_0 := Go.Lib.hid (HGL.out.below hb0)
  have hB_0 : B ≤ w0.heap.size := Nat.le_trans hBw hb0.size
  clear k0 k1 k2 k3 hb0
  have x10 := cell_of_block (i := 0) K1_0.out (v := .int .i64 V1) rfl
  have x11 := cell_of_block (i := 1) K1_0.out (v := .slice a1 len1 cap1) rfl
  have x12 := cell_of_block (i := 2) K1_0.out (v := .int .i64 r1) rfl
  have x20 := cell_of_block (i := 0) K2_0.out (v := .int .i64 V2) rfl
  have x21 := cell_of_block (i := 1) K2_0.out (v := .slice a2 len2 cap2) rfl
  have x22 := cell_of_block (i := 2) K2_0.out (v := .int .i64 r2) rfl
  go_wp2_with fail
  refine (c_bddPairOk (B := B) V1 r1 V2 r2 w0 hB_0 N1_0.out N2_0.out).mono ?_
  rintro e w1 ⟨hb, hq⟩
  have K0_1 := Go.Lib.hid (blk_keep K0_0.out hq)
  have K1_1 := Go.Lib.hid (blk_keep K1_0.out hq)
  have K2_1 := Go.Lib.hid (blk_keep K2_0.out hq)
  have K3_1 := Go.Lib.hid (blk_keep K3_0.out hq)
  have B_1 := Go.Lib.hid (B_0.out.trans (hq.mono B_0.out.size))
  have N1_1 := Go.Lib.hid (N1_0.out.below (hq.mono hB_0))
  have N2_1 := Go.Lib.hid (N2_0.out.below (hq.mono hB_0))
  have hB_1 : B ≤ w1.heap.size := Nat.le_trans hB_0 hq.size
  have G_1 := Go.Lib.hid (G_0.out.below hq)
  clear hq x10 x11 x12 x20 x21 x22
  have x10 := cell_of_block (i := 0) K1_1.out (v := .int .i64 V1) rfl
  have x11 := cell_of_block (i := 1) K1_1.out (v := .slice a1 len1 cap1) rfl
  have x12 := cell_of_block (i := 2) K1_1.out (v := .int .i64 r1) rfl
  by_cases ho : PairP V1 ns1 r1 V2 ns2 r2
  rotate_left
  · obtain rfl := boolIs_f ho hb
    have HO := Go.Lib.hid ho
    clear ho hb hmf
    have z0 := cell_of_block (i := 0) K3_1.out (v := .int .i64 0) rfl
    have f0 := free_of_block (i := 0) K3_1.out
    have z1 := cell_of_block (i := 1) K3_1.out (v := .slice none 0 0) rfl
    have f1 := free_of_block (i := 1) K3_1.out
    have z2 := cell_of_block (i := 2) K3_1.out (v := .int .i64 0) rfl
    have f2 := free_of_block (i := 2) K3_1.out
    go_wp2_with fail
    refine bodyPost_ret (v := .tuple #[.agg #[.int .i64 0, .slice none 0 0, .int .i64 0], .bool false]) (results_cell_q (p := 6) (q := 7) rfl _ _ (w.heap.size + 3) 25 _ (0, 0) _ rfl rfl (heap_setCell_same _ _ 2 _ _ _ (heap_setCell_same _ _ 1 _ _ _ (heap_setCell_same _ _ 0 _ _ _ K3_1.out))) Tryd.underlying25 rfl (by kernel_rfl)) rfl ⟨_, _, _, _, [], rfl, OwnN.nil _ _, .inr ⟨HO.out, rfl, rfl, rfl, rfl⟩, ?_⟩
    exact (((B_1.out).setCell (p := ⟨w.heap.size + 3, 0, none⟩) (Nat.le_add_right _ _) _).setCell (p := ⟨w.heap.size + 3, 1, none⟩) (Nat.le_add_right _ _) _).setCell (p := ⟨w.heap.size + 3, 2, none⟩) (Nat.le_add_right _ _) _
  obtain rfl := boolIs_t ho hb
  have HO := Go.Lib.hid ho
  clear ho hb
  go_wp2_with fail
  refine (c_bddAnswer (G := 30000) (f := fun c => rl r (evF ns1 r1 c) (evF ns2 r2 c)) HO.out.2.1.hv.1 HO.out.2.1.hv.2 w1 G_1.out.2 G_1.out.1 (by decide) calls_bddOfPair (fun fb mb pb v w2 hf hfb hb => by have hc2 := (cap_box K2_1.out).below hb; have ho2 := HO.out.2.2; rw [← HO.out.1] at hc2 ho2; exact c_pair1 (B := w1.heap.size) r w2 hf hfb hb.size ((N1_1.out.mono hB_1).below hb) HO.out.2.1 ((cap_box K1_1.out).below hb) ((N2_1.out.mono hB_1).below hb) ho2 hc2 HRU.out (blk_lt K0_1.out) (keepc hb (blk_lt K0_1.out) (cell_of_block (i := 0) K0_1.out rfl)))).mono ?_
  rintro e w2 ⟨x, V, R, bb, ms, rfl, hown, hrel, hq⟩
  have K3_2 := Go.Lib.hid (blk_keep K3_1.out hq)
  have B_2 := Go.Lib.hid (B_1.out.trans (hq.mono B_1.out.size))
  have HKL := Go.Lib.hid (blk_lt K3_1.out)
  have HOW := Go.Lib.hid hown
  have HREL := Go.Lib.hid hrel
  obtain ⟨xa, xc, rfl, -⟩ := OwnN.form hown
  clear hown hrel hq
  have z0 := cell_of_block (i := 0) K3_2.out (v := .int .i64 0) rfl
  have f0 := free_of_block (i := 0) K3_2.out
  have z1 := cell_of_block (i := 1) K3_2.out (v := .slice none 0 0) rfl
  have f1 := free_of_block (i := 1) K3_2.out
  have z2 := cell_of_block (i := 2) K3_2.out (v := .int .i64 0) rfl
  have f2 := free_of_block (i := 2) K3_2.out
  go_wp2_with fail
  refine bodyPost_ret (v := .tuple #[.agg #[.int .i64 V, .slice xa ms.length xc, .int .i64 R], .bool bb]) (results_cell_q (p := 6) (q := 7) rfl _ _ (w.heap.size + 3) 25 _ (0, 0) _ rfl rfl (heap_setCell_same _ _ 2 _ _ _ (heap_setCell_same _ _ 1 _ _ _ (heap_setCell_same _ _ 0 _ _ _ K3_2.out))) Tryd.underlying25 rfl (by kernel_rfl)) rfl ⟨_, _, _, _, ms, rfl, ?_, .inl ⟨HO.out, HREL.out⟩, ?_⟩
  · exact OwnN.mono (OwnN.block HOW.out (fun y h1 _ _ => by have h2 := HKL.out; rw [heap_setCell_other _ _ _ _ (by show y ≠ w.heap.size + 3; omega), heap_setCell_other _ _ _ _ (by show y ≠ w.heap.size + 3; omega), heap_setCell_other _ _ _ _ (by show y ≠ w.heap.size + 3; omega)])) B_1.out.size
  · exact (((B_2.out).setCell (p := ⟨w.heap.size + 3, 0, none⟩) (Nat.le_add_right _ _) _).setCell (p := ⟨w.heap.size + 3, 1, none⟩) (Nat.le_add_right _ _) _).setCell (p := ⟨w.heap.size + 3, 2, none⟩) (Nat.le_add_right _ _) _

set_option maxHeartbeats 8000000 in
theorem c_BddAndI {B : Nat} {a1 : Option Addr} {len1 cap1 : Nat} {ns1 : List BN} (V1 r1 : Int) {a2 : Option Addr} {len2 cap2 : Nat} {ns2 : List BN} (V2 r2 : Int) (w : World) (hgl : Glob w) (hBw : B ≤ w.heap.size) (hn1 : BnsAt B w a1 len1 cap1 ns1) (hn2 : BnsAt B w a2 len2 cap2 ns2) :
    Calls Tryd.prog 29 #[.agg #[.int .i64 V1, .slice a1 len1 cap1, .int .i64 r1], .agg #[.int .i64 V2, .slice a2 len2 cap2, .int .i64 r2]] w (BddQ (CondR (PairP V1 ns1 r1 V2 ns2 r2) V1 (fun c => rl 8 (evF ns1 r1 c) (evF ns2 r2 c))) w) := by
  have HGL := Go.Lib.hid hgl
  clear hgl
  have HN1 := Go.Lib.hid hn1
  have HN2 := Go.Lib.hid hn2
  clear hn1 hn2
  go_enter Tryd.func29, Tryd.ntmps29
  go_upto_region 1 with fail
  refine code_gen (R := fun wb => wb.heap[w.heap.size]? = some (.cells #[.int .i64 V1, .slice a1 len1 cap1, .int .i64 r1] 25 (0, 0)) ∧ wb.heap[w.heap.size + 1]? = some (.cells #[.int .i64 V2, .slice a2 len2 cap2, .int .i64 r2] 25 (0, 0)) ∧ wb.heap[w.heap.size + 2]? = some (.cells #[.int .i64 0, .slice none 0 0, .int .i64 0] 25 (0, 0)) ∧ Below w.heap.size w wb) ⟨(al3 _ _ _ _).1, (al3 _ _ _ _).2.1, (al3 _ _ _ _).2.2, by go_grown⟩ ?_
  rintro w0 ⟨k0, k1, k2, hb0⟩
  have K0_0 := Go.Lib.hid k0
  have K1_0 := Go.Lib.hid k1
  have K2_0 := Go.Lib.hid k2
  have B_0 := Go.Lib.hid hb0
  have N1_0 := Go.Lib.hid (HN1.out.below (hb0.mono hBw))
  have N2_0 := Go.Lib.hid (HN2.out.below (hb0.mono hBw))
  have G_0 := Go.Lib.hid (HGL.out.below hb0)
  have hB_0 : B ≤ w0.heap.size := Nat.le_trans hBw hb0.size
  clear k0 k1 k2 hb0
  have x00 := cell_of_block (i := 0) K0_0.out (v := .int .i64 V1) rfl
  have x01 := cell_of_block (i := 1) K0_0.out (v := .slice a1 len1 cap1) rfl
  have x02 := cell_of_block (i := 2) K0_0.out (v := .int .i64 r1) rfl
  have x10 := cell_of_block (i := 0) K1_0.out (v := .int .i64 V2) rfl
  have x11 := cell_of_block (i := 1) K1_0.out (v := .slice a2 len2 cap2) rfl
  have x12 := cell_of_block (i := 2) K1_0.out (v := .int .i64 r2) rfl
  go_wp2_with fail
  refine (c_bddOfPair (B := B) V1 r1 V2 r2 8 (.inl rfl) w0 G_0.out hB_0 N1_0.out N2_0.out).mono ?_
  rintro e w2 ⟨x, V, R, bb, ms, rfl, hown, hrel, hq⟩
  have K2_2 := Go.Lib.hid (blk_keep K2_0.out hq)
  have B_2 := Go.Lib.hid (B_0.out.trans (hq.mono B_0.out.size))
  have HKL := Go.Lib.hid (blk_lt K2_0.out)
  have HOW := Go.Lib.hid hown
  have HREL := Go.Lib.hid hrel
  obtain ⟨xa, xc, rfl, -⟩ := OwnN.form hown
  clear hown hrel hq
  have z0 := cell_of_block (i := 0) K2_2.out (v := .int .i64 0) rfl
  have f0 := free_of_block (i := 0) K2_2.out
  have z1 := cell_of_block (i := 1) K2_2.out (v := .slice none 0 0) rfl
  have f1 := free_of_block (i := 1) K2_2.out
  have z2 := cell_of_block (i := 2) K2_2.out (v := .int .i64 0) rfl
  have f2 := free_of_block (i := 2) K2_2.out
  go_wp2_with fail
  refine bodyPost_ret (v := .tuple #[.agg #[.int .i64 V, .slice xa ms.length xc, .int .i64 R], .bool bb]) (results_cell_q (p := 4) (q := 5) rfl _ _ (w.heap.size + 2) 25 _ (0, 0) _ rfl rfl (heap_setCell_same _ _ 2 _ _ _ (heap_setCell_same _ _ 1 _ _ _ (heap_setCell_same _ _ 0 _ _ _ K2_2.out))) Tryd.underlying25 rfl (by kernel_rfl)) rfl ⟨_, _, _, _, ms, rfl, ?_, HREL.out, ?_⟩
  · exact OwnN.mono (OwnN.block HOW.out (fun y h1 _ _ => by have h2 := HKL.out; rw [heap_setCell_other _ _ _ _ (by show y ≠ w.heap.size + 2; omega), heap_setCell_other _ _ _ _ (by show y ≠ w.heap.size + 2; omega), heap_setCell_other _ _ _ _ (by show y ≠ w.heap.size + 2; omega)])) B_0.out.size
  · exact (((B_2.out).setCell (p := ⟨w.heap.size + 2, 0, none⟩) (Nat.le_add_right _ _) _).setCell (p := ⟨w.heap.size + 2, 1, none⟩) (Nat.le_add_right _ _) _).setCell (p := ⟨w.heap.size + 2, 2, none⟩) (Nat.le_add_right _ _) _

set_option maxHeartbeats 8000000 in
theorem c_BddOrI {B : Nat} {a1 : Option Addr} {len1 cap1 : Nat} {ns1 : List BN} (V1 r1 : Int) {a2 : Option Addr} {len2 cap2 : Nat} {ns2 : List BN} (V2 r2 : Int) (w : World) (hgl : Glob w) (hBw : B ≤ w.heap.size) (hn1 : BnsAt B w a1 len1 cap1 ns1) (hn2 : BnsAt B w a2 len2 cap2 ns2) :
    Calls Tryd.prog 19 #[.agg #[.int .i64 V1, .slice a1 len1 cap1, .int .i64 r1], .agg #[.int .i64 V2, .slice a2 len2 cap2, .int .i64 r2]] w (BddQ (CondR (PairP V1 ns1 r1 V2 ns2 r2) V1 (fun c => rl 14 (evF ns1 r1 c) (evF ns2 r2 c))) w) := by
  have HGL := Go.Lib.hid hgl
  clear hgl
  have HN1 := Go.Lib.hid hn1
  have HN2 := Go.Lib.hid hn2
  clear hn1 hn2
  go_enter Tryd.func19, Tryd.ntmps19
  go_upto_region 1 with fail
  refine code_gen (R := fun wb => wb.heap[w.heap.size]? = some (.cells #[.int .i64 V1, .slice a1 len1 cap1, .int .i64 r1] 25 (0, 0)) ∧ wb.heap[w.heap.size + 1]? = some (.cells #[.int .i64 V2, .slice a2 len2 cap2, .int .i64 r2] 25 (0, 0)) ∧ wb.heap[w.heap.size + 2]? = some (.cells #[.int .i64 0, .slice none 0 0, .int .i64 0] 25 (0, 0)) ∧ Below w.heap.size w wb) ⟨(al3 _ _ _ _).1, (al3 _ _ _ _).2.1, (al3 _ _ _ _).2.2, by go_grown⟩ ?_
  rintro w0 ⟨k0, k1, k2, hb0⟩
  have K0_0 := Go.Lib.hid k0
  have K1_0 := Go.Lib.hid k1
  have K2_0 := Go.Lib.hid k2
  have B_0 := Go.Lib.hid hb0
  have N1_0 := Go.Lib.hid (HN1.out.below (hb0.mono hBw))
  have N2_0 := Go.Lib.hid (HN2.out.below (hb0.mono hBw))
  have G_0 := Go.Lib.hid (HGL.out.below hb0)
  have hB_0 : B ≤ w0.heap.size := Nat.le_trans hBw hb0.size
  clear k0 k1 k2 hb0
  have x00 := cell_of_block (i := 0) K0_0.out (v := .int .i64 V1) rfl
  have x01 := cell_of_block (i := 1) K0_0.out (v := .slice a1 len1 cap1) rfl
  have x02 := cell_of_block (i := 2) K0_0.out (v := .int .i64 r1) rfl
  have x10 := cell_of_block (i := 0) K1_0.out (v := .int .i64 V2) rfl
  have x11 := cell_of_block (i := 1) K1_0.out (v := .slice a2 len2 cap2) rfl
  have x12 := cell_of_block (i := 2) K1_0.out (v := .int .i64 r2) rfl
  go_wp2_with fail
  refine (c_bddOfPair (B := B) V1 r1 V2 r2 14 (.inr (.inl rfl)) w0 G_0.out hB_0 N1_0.out N2_0.out).mono ?_
  rintro e w2 ⟨x, V, R, bb, ms, rfl, hown, hrel, hq⟩
  have K2_2 := Go.Lib.hid (blk_keep K2_0.out hq)
  have B_2 := Go.Lib.hid (B_0.out.trans (hq.mono B_0.out.size))
  have HKL := Go.Lib.hid (blk_lt K2_0.out)
  have HOW := Go.Lib.hid hown
  have HREL := Go.Lib.hid hrel
  obtain ⟨xa, xc, rfl, -⟩ := OwnN.form hown
  clear hown hrel hq
  have z0 := cell_of_block (i := 0) K2_2.out (v := .int .i64 0) rfl
  have f0 := free_of_block (i := 0) K2_2.out
  have z1 := cell_of_block (i := 1) K2_2.out (v := .slice none 0 0) rfl
  have f1 := free_of_block (i := 1) K2_2.out
  have z2 := cell_of_block (i := 2) K2_2.out (v := .int .i64 0) rfl
  have f2 := free_of_block (i := 2) K2_2.out
  go_wp2_with fail
  refine bodyPost_ret (v := .tuple #[.agg #[.int .i64 V, .slice xa ms.length xc, .int .i64 R], .bool bb]) (results_cell_q (p := 4) (q := 5) rfl _ _ (w.heap.size + 2) 25 _ (0, 0) _ rfl rfl (heap_setCell_same _ _ 2 _ _ _ (heap_setCell_same _ _ 1 _ _ _ (heap_setCell_same _ _ 0 _ _ _ K2_2.out))) Tryd.underlying25 rfl (by kernel_rfl)) rfl ⟨_, _, _, _, ms, rfl, ?_, HREL.out, ?_⟩
  · exact OwnN.mono (OwnN.block HOW.out (fun y h1 _ _ => by have h2 := HKL.out; rw [heap_setCell_other _ _ _ _ (by show y ≠ w.heap.size + 2; omega), heap_setCell_other _ _ _ _ (by show y ≠ w.heap.size + 2; omega), heap_setCell_other _ _ _ _ (by show y ≠ w.heap.size + 2; omega)])) B_0.out.size
  · exact (((B_2.out).setCell (p := ⟨w.heap.size + 2, 0, none⟩) (Nat.le_add_right _ _) _).setCell (p := ⟨w.heap.size + 2, 1, none⟩) (Nat.le_add_right _ _) _).setCell (p := ⟨w.heap.size + 2, 2, none⟩) (Nat.le_add_right _ _) _

set_option maxHeartbeats 8000000 in
theorem c_BddXorI {B : Nat} {a1 : Option Addr} {len1 cap1 : Nat} {ns1 : List BN} (V1 r1 : Int) {a2 : Option Addr} {len2 cap2 : Nat} {ns2 : List BN} (V2 r2 : Int) (w : World) (hgl : Glob w) (hBw : B ≤ w.heap.size) (hn1 : BnsAt B w a1 len1 cap1 ns1) (hn2 : BnsAt B w a2 len2 cap2 ns2) :
    Calls Tryd.prog 30 #[.agg #[.int .i64 V1, .slice a1 len1 cap1, .int .i64 r1], .agg #[.int .i64 V2, .slice a2 len2 cap2, .int .i64 r2]] w (BddQ (CondR (PairP V1 ns1 r1 V2 ns2 r2) V1 (fun c => rl 6 (evF ns1 r1 c) (evF ns2 r2 c))) w) := by
  have HGL := Go.Lib.hid hgl
  clear hgl
  have HN1 := Go.Lib.hid hn1
  have HN2 := Go.Lib.hid hn2
  clear hn1 hn2
  go_enter Tryd.func30, Tryd.ntmps30
  go_upto_region 1 with fail
  refine code_gen (R := fun wb => wb.heap[w.heap.size]? = some (.cells #[.int .i64 V1, .slice a1 len1 cap1, .int .i64 r1] 25 (0, 0)) ∧ wb.heap[w.heap.size + 1]? = some (.cells #[.int .i64 V2, .slice a2 len2 cap2, .int .i64 r2] 25 (0, 0)) ∧ wb.heap[w.heap.size + 2]? = some (.cells #[.int .i64 0, .slice none 0 0, .int .i64 0] 25 (0, 0)) ∧ Below w.heap.size w wb) ⟨(al3 _ _ _ _).1, (al3 _ _ _ _).2.1, (al3 _ _ _ _).2.2, by go_grown⟩ ?_
  rintro w0 ⟨k0, k1, k2, hb0⟩
  have K0_0 := Go.Lib.hid k0
  have K1_0 := Go.Lib.hid k1
  have K2_0 := Go.Lib.hid k2
  have B_0 := Go.Lib.hid hb0
  have N1_0 := Go.Lib.hid (HN1.out.below (hb0.mono hBw))
  have N2_0 := Go.Lib.hid (HN2.out.below (hb0.mono hBw))
  have G_0 := Go.Lib.hid (HGL.out.below hb0)
  have hB_0 : B ≤ w0.heap.size := Nat.le_trans hBw hb0.size
  clear k0 k1 k2 hb0
  have x00 := cell_of_block (i := 0) K0_0.out (v := .int .i64 V1) rfl
  have x01 := cell_of_block (i := 1) K0_0.out (v := .slice a1 len1 cap1) rfl
  have x02 := cell_of_block (i := 2) K0_0.out (v := .int .i64 r1) rfl
  have x10 := cell_of_block (i := 0) K1_0.out (v := .int .i64 V2) rfl
  have x11 := cell_of_block (i := 1) K1_0.out (v := .slice a2 len2 cap2) rfl
  have x12 := cell_of_block (i := 2) K1_0.out (v := .int .i64 r2) rfl
  go_wp2_with fail
  refine (c_bddOfPair (B := B) V1 r1 V2 r2 6 (.inr (.inr rfl)) w0 G_0.out hB_0 N1_0.out N2_0.out).mono ?_
  rintro e w2 ⟨x, V, R, bb, ms, rfl, hown, hrel, hq⟩
  have K2_2 := Go.Lib.hid (blk_keep K2_0.out hq)
  have B_2 := Go.Lib.hid (B_0.out.trans (hq.mono B_0.out.size))
  have HKL := Go.Lib.hid (blk_lt K2_0.out)
  have HOW := Go.Lib.hid hown
  have HREL := Go.Lib.hid hrel
  obtain ⟨xa, xc, rfl, -⟩ := OwnN.form hown
  clear hown hrel hq
  have z0 := cell_of_block (i := 0) K2_2.out (v := .int .i64 0) rfl
  have f0 := free_of_block (i := 0) K2_2.out
  have z1 := cell_of_block (i := 1) K2_2.out (v := .slice none 0 0) rfl
  have f1 := free_of_block (i := 1) K2_2.out
  have z2 := cell_of_block (i := 2) K2_2.out (v := .int .i64 0) rfl
  have f2 := free_of_block (i := 2) K2_2.out
  go_wp2_with fail
  refine bodyPost_ret (v := .tuple #[.agg #[.int .i64 V, .slice xa ms.length xc, .int .i64 R], .bool bb]) (results_cell_q (p := 4) (q := 5) rfl _ _ (w.heap.size + 2) 25 _ (0, 0) _ rfl rfl (heap_setCell_same _ _ 2 _ _ _ (heap_setCell_same _ _ 1 _ _ _ (heap_setCell_same _ _ 0 _ _ _ K2_2.out))) Tryd.underlying25 rfl (by kernel_rfl)) rfl ⟨_, _, _, _, ms, rfl, ?_, HREL.out, ?_⟩
  · exact OwnN.mono (OwnN.block HOW.out (fun y h1 _ _ => by have h2 := HKL.out; rw [heap_setCell_other _ _ _ _ (by show y ≠ w.heap.size + 2; omega), heap_setCell_other _ _ _ _ (by show y ≠ w.heap.size + 2; omega), heap_setCell_other _ _ _ _ (by show y ≠ w.heap.size + 2; omega)])) B_0.out.size
  · exact (((B_2.out).setCell (p := ⟨w.heap.size + 2, 0, none⟩) (Nat.le_add_right _ _) _).setCell (p := ⟨w.heap.size + 2, 1, none⟩) (Nat.le_add_right _ _) _).setCell (p := ⟨w.heap.size + 2, 2, none⟩) (Nat.le_add_right _ _) _

def TriP (V1 : Int) (ns1 : List BN) (r1 V2 : Int) (ns2 : List BN) (r2 V3 : Int) (ns3 : List BN) (r3 : Int) : Prop := PairP V1 ns1 r1 V2 ns2 r2 ∧ PairP V1 ns1 r1 V3 ns3 r3
set_option maxHeartbeats 8000000 in
theorem c_BddIfI {B : Nat} {a1 : Option Addr} {len1 cap1 : Nat} {ns1 : List BN} (V1 r1 : Int) {a2 : Option Addr} {len2 cap2 : Nat} {ns2 : List BN} (V2 r2 : Int) {a3 : Option Addr} {len3 cap3 : Nat} {ns3 : List BN} (V3 r3 : Int) (w : World) (hgl : Glob w) (hBw : B ≤ w.heap.size) (hn1 : BnsAt B w a1 len1 cap1 ns1) (hn2 : BnsAt B w a2 len2 cap2 ns2) (hn3 : BnsAt B w a3 len3 cap3 ns3) :
    Calls Tryd.prog 8 #[.agg #[.int .i64 V1, .slice a1 len1 cap1, .int .i64 r1], .agg #[.int .i64 V2, .slice a2 len2 cap2, .int .i64 r2], .agg #[.int .i64 V3, .slice a3 len3 cap3, .int .i64 r3]] w (BddQ (CondR (TriP V1 ns1 r1 V2 ns2 r2 V3 ns3 r3) V1 (fun c => if evF ns1 r1 c then evF ns2 r2 c else evF ns3 r3 c)) w) := by
  have HGL := Go.Lib.hid hgl
  clear hgl
  have hmf : ∀ (fn : Fn) (first cap : Array Value) (w : World), (Instr.makeFunc fn first cap).run Tryd.prog w = .ok (.func fn first cap) w := fun _ _ _ _ => rfl
  have HN1 := Go.Lib.hid hn1
  have HN2 := Go.Lib.hid hn2
  have HN3 := Go.Lib.hid hn3
  clear hn1 hn2 hn3
  go_enter Tryd.func8, Tryd.ntmps8
  go_upto_region 1 with fail
  refine code_gen (R := fun wb => wb.heap[w.heap.size]? = some (.cells #[.int .i64 V1, .slice a1 len1 cap1, .int .i64 r1] 25 (0, 0)) ∧ wb.heap[w.heap.size + 1]? = some (.cells #[.int .i64 V2, .slice a2 len2 cap2, .int .i64 r2] 25 (0, 0)) ∧ wb.heap[w.heap.size + 2]? = some (.cells #[.int .i64 V3, .slice a3 len3 cap3, .int .i64 r3] 25 (0, 0)) ∧ wb.heap[w.heap.size + 3]? = some (.cells #[.int .i64 0, .slice none 0 0, .int .i64 0] 25 (0, 0)) ∧ Below w.heap.size w wb) ⟨(al4 _ _ _ _ _).1, (al4 _ _ _ _ _).2.1, (al4 _ _ _ _ _).2.2.1, (al4 _ _ _ _ _).2.2.2, by go_grown⟩ ?_
  rintro w0 ⟨k0, k1, k2, k3, hb0⟩
  have K0_0 := Go.Lib.hid k0
  have K1_0 := Go.Lib.hid k1
  have K2_0 := Go.Lib.hid k2
  have K3_0 := Go.Lib.hid k3
  have B_0 := Go.Lib.hid hb0
  have N1_0 := Go.Lib.hid (HN1.out.below (hb0.mono hBw))
  have N2_0 := Go.Lib.hid (HN2.out.below (hb0.mono hBw))
  have N3_0 := Go.Lib.hid (HN3.out.below (hb0.mono hBw))
  have G_0 := Go.Lib.hid (HGL.out.below hb0)
  have hB_0 : B ≤ w0.heap.size := Nat.le_trans hBw hb0.size
  clear k0 k1 k2 k3 hb0
  have x00 := cell_of_block (i := 0) K0_0.out (v := .int .i64 V1) rfl
  have x01 := cell_of_block (i := 1) K0_0.out (v := .slice a1 len1 cap1) rfl
  have x02 := cell_of_block (i := 2) K0_0.out (v := .int .i64 r1) rfl
  have x10 := cell_of_block (i := 0) K1_0.out (v := .int .i64 V2) rfl
  have x11 := cell_of_block (i := 1) K1_0.out (v := .slice a2 len2 cap2) rfl
  have x12 := cell_of_block (i := 2) K1_0.out (v := .int .i64 r2) rfl
  go_wp2_with fail
  refine (c_bddPairOk (B := B) V1 r1 V2 r2 w0 hB_0 N1_0.out N2_0.out).mono ?_
  rintro e w1 ⟨hb, hq⟩
  have K0_1 := Go.Lib.hid (blk_keep K0_0.out hq)
  have K1_1 := Go.Lib.hid (blk_keep K1_0.out hq)
  have K2_1 := Go.Lib.hid (blk_keep K2_0.out hq)
  have K3_1 := Go.Lib.hid (blk_keep K3_0.out hq)
  have B_1 := Go.Lib.hid (B_0.out.trans (hq.mono B_0.out.size))
  have N1_1 := Go.Lib.hid (N1_0.out.below (hq.mono hB_0))
  have N2_1 := Go.Lib.hid (N2_0.out.below (hq.mono hB_0))
  have N3_1 := Go.Lib.hid (N3_0.out.below (hq.mono hB_0))
  have hB_1 : B ≤ w1.heap.size := Nat.le_trans hB_0 hq.size
  have G_1 := Go.Lib.hid (G_0.out.below hq)
  clear hq x00 x01 x02 x10 x11 x12
  have x00 := cell_of_block (i := 0) K0_1.out (v := .int .i64 V1) rfl
  have x01 := cell_of_block (i := 1) K0_1.out (v := .slice a1 len1 cap1) rfl
  have x02 := cell_of_block (i := 2) K0_1.out (v := .int .i64 r1) rfl
  have x20 := cell_of_block (i := 0) K2_1.out (v := .int .i64 V3) rfl
  have x21 := cell_of_block (i := 1) K2_1.out (v := .slice a3 len3 cap3) rfl
  have x22 := cell_of_block (i := 2) K2_1.out (v := .int .i64 r3) rfl
  by_cases ho : PairP V1 ns1 r1 V2 ns2 r2
  rotate_left
  · obtain rfl := boolIs_f ho hb
    have HO := Go.Lib.hid ho
    clear ho hb hmf
    have z0 := cell_of_block (i := 0) K3_1.out (v := .int .i64 0) rfl
    have f0 := free_of_block (i := 0) K3_1.out
    have z1 := cell_of_block (i := 1) K3_1.out (v := .slice none 0 0) rfl
    have f1 := free_of_block (i := 1) K3_1.out
    have z2 := cell_of_block (i := 2) K3_1.out (v := .int .i64 0) rfl
    have f2 := free_of_block (i := 2) K3_1.out
    go_wp2_with fail
    refine bodyPost_ret (v := .tuple #[.agg #[.int .i64 0, .slice none 0 0, .int .i64 0], .bool false]) (results_cell_q (p := 6) (q := 7) rfl _ _ (w.heap.size + 3) 25 _ (0, 0) _ rfl rfl (heap_setCell_same _ _ 2 _ _ _ (heap_setCell_same _ _ 1 _ _ _ (heap_setCell_same _ _ 0 _ _ _ K3_1.out))) Tryd.underlying25 rfl (by kernel_rfl)) rfl ⟨_, _, _, _, [], rfl, OwnN.nil _ _, .inr ⟨(fun h => HO.out h.1), rfl, rfl, rfl, rfl⟩, ?_⟩
    exact (((B_1.out).setCell (p := ⟨w.heap.size + 3, 0, none⟩) (Nat.le_add_right _ _) _).setCell (p := ⟨w.heap.size + 3, 1, none⟩) (Nat.le_add_right _ _) _).setCell (p := ⟨w.heap.size + 3, 2, none⟩) (Nat.le_add_right _ _) _
  obtain rfl := boolIs_t ho hb
  have HO := Go.Lib.hid ho
  clear ho hb
  go_wp2_with fail
  refine (c_bddPairOk (B := B) V1 r1 V3 r3 w1 hB_1 N1_1.out N3_1.out).mono ?_
  rintro e w2 ⟨hb, hq⟩
  have K0_2 := Go.Lib.hid (blk_keep K0_1.out hq)
  have K1_2 := Go.Lib.hid (blk_keep K1_1.out hq)
  have K2_2 := Go.Lib.hid (blk_keep K2_1.out hq)
  have K3_2 := Go.Lib.hid (blk_keep K3_1.out hq)
  have B_2 := Go.Lib.hid (B_1.out.trans (hq.mono B_1.out.size))
  have N1_2 := Go.Lib.hid (N1_1.out.below (hq.mono hB_1))
  have N2_2 := Go.Lib.hid (N2_1.out.below (hq.mono hB_1))
  have N3_2 := Go.Lib.hid (N3_1.out.below (hq.mono hB_1))
  have hB_2 : B ≤ w2.heap.size := Nat.le_trans hB_1 hq.size
  have G_2 := Go.Lib.hid (G_1.out.below hq)
  clear hq x00 x01 x02 x20 x21 x22
  have x00 := cell_of_block (i := 0) K0_2.out (v := .int .i64 V1) rfl
  have x01 := cell_of_block (i := 1) K0_2.out (v := .slice a1 len1 cap1) rfl
  have x02 := cell_of_block (i := 2) K0_2.out (v := .int .i64 r1) rfl
  by_cases ho : PairP V1 ns1 r1 V3 ns3 r3
  rotate_left
  · obtain rfl := boolIs_f ho hb
    have HO2 := Go.Lib.hid ho
    clear ho hb hmf
    have z0 := cell_of_block (i := 0) K3_2.out (v := .int .i64 0) rfl
    have f0 := free_of_block (i := 0) K3_2.out
    have z1 := cell_of_block (i := 1) K3_2.out (v := .slice none 0 0) rfl
    have f1 := free_of_block (i := 1) K3_2.out
    have z2 := cell_of_block (i := 2) K3_2.out (v := .int .i64 0) rfl
    have f2 := free_of_block (i := 2) K3_2.out
    go_wp2_with fail
    refine bodyPost_ret (v := .tuple #[.agg #[.int .i64 0, .slice none 0 0, .int .i64 0], .bool false]) (results_cell_q (p := 6) (q := 7) rfl _ _ (w.heap.size + 3) 25 _ (0, 0) _ rfl rfl (heap_setCell_same _ _ 2 _ _ _ (heap_setCell_same _ _ 1 _ _ _ (heap_setCell_same _ _ 0 _ _ _ K3_2.out))) Tryd.underlying25 rfl (by kernel_rfl)) rfl ⟨_, _, _, _, [], rfl, OwnN.nil _ _, .inr ⟨(fun h => HO2.out h.2), rfl, rfl, rfl, rfl⟩, ?_⟩
    exact (((B_2.out).setCell (p := ⟨w.heap.size + 3, 0, none⟩) (Nat.le_add_right _ _) _).setCell (p := ⟨w.heap.size + 3, 1, none⟩) (Nat.le_add_right _ _) _).setCell (p := ⟨w.heap.size + 3, 2, none⟩) (Nat.le_add_right _ _) _
  obtain rfl := boolIs_t ho hb
  have HO2 := Go.Lib.hid ho
  clear ho hb
  go_wp2_with fail
  refine (c_bddAnswer (G := 30000) (f := fun c => if evF ns1 r1 c then evF ns2 r2 c else evF ns3 r3 c) HO.out.2.1.hv.1 HO.out.2.1.hv.2 w2 G_2.out.2 G_2.out.1 (by decide) calls_BddIf (fun fb mb pb v w3 hf hfb hb => by have hc2 := (cap_box K1_2.out).below hb; have ho2 := HO.out.2.2; rw [← HO.out.1] at hc2 ho2; have hc3 := (cap_box K2_2.out).below hb; have ho3 := HO2.out.2.2; rw [← HO2.out.1] at hc3 ho3; exact c_if1 (B := w2.heap.size) w3 hf hfb hb.size ((N1_2.out.mono hB_2).below hb) HO.out.2.1 ((cap_box K0_2.out).below hb) ((N2_2.out.mono hB_2).below hb) ho2 hc2 ((N3_2.out.mono hB_2).below hb) ho3 hc3)).mono ?_
  rintro e w3 ⟨x, V, R, bb, ms, rfl, hown, hrel, hq⟩
  have K3_3 := Go.Lib.hid (blk_keep K3_2.out hq)
  have B_3 := Go.Lib.hid (B_2.out.trans (hq.mono B_2.out.size))
  have HKL := Go.Lib.hid (blk_lt K3_2.out)
  have HOW := Go.Lib.hid hown
  have HREL := Go.Lib.hid hrel
  obtain ⟨xa, xc, rfl, -⟩ := OwnN.form hown
  clear hown hrel hq
  have z0 := cell_of_block (i := 0) K3_3.out (v := .int .i64 0) rfl
  have f0 := free_of_block (i := 0) K3_3.out
  have z1 := cell_of_block (i := 1) K3_3.out (v := .slice none 0 0) rfl
  have f1 := free_of_block (i := 1) K3_3.out
  have z2 := cell_of_block (i := 2) K3_3.out (v := .int .i64 0) rfl
  have f2 := free_of_block (i := 2) K3_3.out
  go_wp2_with fail
  refine bodyPost_ret (v := .tuple #[.agg #[.int .i64 V, .slice xa ms.length xc, .int .i64 R], .bool bb]) (results_cell_q (p := 6) (q := 7) rfl _ _ (w.heap.size + 3) 25 _ (0, 0) _ rfl rfl (heap_setCell_same _ _ 2 _ _ _ (heap_setCell_same _ _ 1 _ _ _ (heap_setCell_same _ _ 0 _ _ _ K3_3.out))) Tryd.underlying25 rfl (by kernel_rfl)) rfl ⟨_, _, _, _, ms, rfl, ?_, .inl ⟨⟨HO.out, HO2.out⟩, HREL.out⟩, ?_⟩
  · exact OwnN.mono (OwnN.block HOW.out (fun y h1 _ _ => by have h2 := HKL.out; rw [heap_setCell_other _ _ _ _ (by show y ≠ w.heap.size + 3; omega), heap_setCell_other _ _ _ _ (by show y ≠ w.heap.size + 3; omega), heap_setCell_other _ _ _ _ (by show y ≠ w.heap.size + 3; omega)])) B_2.out.size
  · exact (((B_3.out).setCell (p := ⟨w.heap.size + 3, 0, none⟩) (Nat.le_add_right _ _) _).setCell (p := ⟨w.heap.size + 3, 1, none⟩) (Nat.le_add_right _ _) _).setCell (p := ⟨w.heap.size + 3, 2, none⟩) (Nat.le_add_right _ _) _

set_option maxHeartbeats 8000000 in
theorem c_BddFixI {B : Nat} {a1 : Option Addr} {len1 cap1 : Nat} {ns1 : List BN} (V1 r1 : Int) (i : Int) (yes : Bool) (w : World) (hgl : Glob w) (hBw : B ≤ w.heap.size) (hn1 : BnsAt B w a1 len1 cap1 ns1) :
    Calls Tryd.prog 18 #[.agg #[.int .i64 V1, .slice a1 len1 cap1, .int .i64 r1], .int .i64 i, .bool yes] w (BddQ (CondR (OkB V1 ns1 r1 ∧ 0 ≤ i ∧ i < V1) V1 (fun c => evF ns1 r1 (fixc i yes c))) w) := by
  have HGL := Go.Lib.hid hgl
  clear hgl
  have hmf : ∀ (fn : Fn) (first cap : Array Value) (w : World), (Instr.makeFunc fn first cap).run Tryd.prog w = .ok (.func fn first cap) w := fun _ _ _ _ => rfl
  have HN1 := Go.Lib.hid hn1
  clear hn1
  go_enter Tryd.func18, Tryd.ntmps18
  go_upto_region 1 with fail
  refine code_gen (R := fun wb => wb.heap[w.heap.size]? = some (.cells #[.int .i64 V1, .slice a1 len1 cap1, .int .i64 r1] 25 (0, 0)) ∧ wb.heap[w.heap.size + 1]? = some (.cells #[.int .i64 i] 3 (0, 0)) ∧ wb.heap[w.heap.size + 2]? = some (.cells #[.bool yes] 4 (0, 0)) ∧ wb.heap[w.heap.size + 3]? = some (.cells #[.int .i64 0, .slice none 0 0, .int .i64 0] 25 (0, 0)) ∧ Below w.heap.size w wb) ⟨(al4 _ _ _ _ _).1, (al4 _ _ _ _ _).2.1, (al4 _ _ _ _ _).2.2.1, (al4 _ _ _ _ _).2.2.2, by go_grown⟩ ?_
  rintro w0 ⟨k0, k1, k2, k3, hb0⟩
  have K0_0 := Go.Lib.hid k0
  have K1_0 := Go.Lib.hid k1
  have K2_0 := Go.Lib.hid k2
  have K3_0 := Go.Lib.hid k3
  have B_0 := Go.Lib.hid hb0
  have N1_0 := Go.Lib.hid (HN1.out.below (hb0.mono hBw))
  have G_0 := Go.Lib.hid (HGL.out.below hb0)
  have hB_0 : B ≤ w0.heap.size := Nat.le_trans hBw hb0.size
  clear k0 k1 k2 k3 hb0
  have x00 := cell_of_block (i := 0) K0_0.out (v := .int .i64 V1) rfl
  have x01 := cell_of_block (i := 1) K0_0.out (v := .slice a1 len1 cap1) rfl
  have x02 := cell_of_block (i := 2) K0_0.out (v := .int .i64 r1) rfl
  go_wp2_with fail
  refine (c_BddOkI (B := B) V1 r1 w0 hB_0 N1_0.out).mono ?_
  rintro e w1 ⟨hb, hq⟩
  have K0_1 := Go.Lib.hid (blk_keep K0_0.out hq)
  have K1_1 := Go.Lib.hid (blk_keep K1_0.out hq)
  have K2_1 := Go.Lib.hid (blk_keep K2_0.out hq)
  have K3_1 := Go.Lib.hid (blk_keep K3_0.out hq)
  have B_1 := Go.Lib.hid (B_0.out.trans (hq.mono B_0.out.size))
  have N1_1 := Go.Lib.hid (N1_0.out.below (hq.mono hB_0))
  have hB_1 : B ≤ w1.heap.size := Nat.le_trans hB_0 hq.size
  have G_1 := Go.Lib.hid (G_0.out.below hq)
  clear hq x00 x01 x02
  have x00 := cell_of_block (i := 0) K0_1.out (v := .int .i64 V1) rfl
  have x01 := cell_of_block (i := 1) K0_1.out (v := .slice a1 len1 cap1) rfl
  have x02 := cell_of_block (i := 2) K0_1.out (v := .int .i64 r1) rfl
  have x10 := cell_of_block (i := 0) K1_1.out (v := .int .i64 i) rfl
  by_cases ho : OkB V1 ns1 r1
  rotate_left
  · obtain rfl := boolIs_f ho hb
    have HO := Go.Lib.hid ho
    clear ho hb hmf
    have z0 := cell_of_block (i := 0) K3_1.out (v := .int .i64 0) rfl
    have f0 := free_of_block (i := 0) K3_1.out
    have z1 := cell_of_block (i := 1) K3_1.out (v := .slice none 0 0) rfl
    have f1 := free_of_block (i := 1) K3_1.out
    have z2 := cell_of_block (i := 2) K3_1.out (v := .int .i64 0) rfl
    have f2 := free_of_block (i := 2) K3_1.out
    go_wp2_with fail
    refine bodyPost_ret (v := .tuple #[.agg #[.int .i64 0, .slice none 0 0, .int .i64 0], .bool false]) (results_cell_q (p := 6) (q := 7) rfl _ _ (w.heap.size + 3) 25 _ (0, 0) _ rfl rfl (heap_setCell_same _ _ 2 _ _ _ (heap_setCell_same _ _ 1 _ _ _ (heap_setCell_same _ _ 0 _ _ _ K3_1.out))) Tryd.underlying25 rfl (by kernel_rfl)) rfl ⟨_, _, _, _, [], rfl, OwnN.nil _ _, .inr ⟨(fun h => HO.out h.1), rfl, rfl, rfl, rfl⟩, ?_⟩
    exact (((B_1.out).setCell (p := ⟨w.heap.size + 3, 0, none⟩) (Nat.le_add_right _ _) _).setCell (p := ⟨w.heap.size + 3, 1, none⟩) (Nat.le_add_right _ _) _).setCell (p := ⟨w.heap.size + 3, 2, none⟩) (Nat.le_add_right _ _) _
  obtain rfl := boolIs_t ho hb
  have HO := Go.Lib.hid ho
  clear ho hb
  have HT := Go.Lib.hid (c_bitOk V1 i w1)
  cases hbb : bitB V1 i with
  | false =>
    have HBB := Go.Lib.hid hbb
    rw [hbb] at HT
    clear hbb hmf
    go_wp2_with fail
    refine HT.out.mono ?_
    rintro e w2 ⟨rfl, hw⟩
    cases hw
    have z0 := cell_of_block (i := 0) K3_1.out (v := .int .i64 0) rfl
    have f0 := free_of_block (i := 0) K3_1.out
    have z1 := cell_of_block (i := 1) K3_1.out (v := .slice none 0 0) rfl
    have f1 := free_of_block (i := 1) K3_1.out
    have z2 := cell_of_block (i := 2) K3_1.out (v := .int .i64 0) rfl
    have f2 := free_of_block (i := 2) K3_1.out
    go_wp2_with fail
    refine bodyPost_ret (v := .tuple #[.agg #[.int .i64 0, .slice none 0 0, .int .i64 0], .bool false]) (results_cell_q (p := 6) (q := 7) rfl _ _ (w.heap.size + 3) 25 _ (0, 0) _ rfl rfl (heap_setCell_same _ _ 2 _ _ _ (heap_setCell_same _ _ 1 _ _ _ (heap_setCell_same _ _ 0 _ _ _ K3_1.out))) Tryd.underlying25 rfl (by kernel_rfl)) rfl ⟨_, _, _, _, [], rfl, OwnN.nil _ _, .inr ⟨(fun h => of_decide_eq_false HBB.out h.2), rfl, rfl, rfl, rfl⟩, ?_⟩
    exact (((B_1.out).setCell (p := ⟨w.heap.size + 3, 0, none⟩) (Nat.le_add_right _ _) _).setCell (p := ⟨w.heap.size + 3, 1, none⟩) (Nat.le_add_right _ _) _).setCell (p := ⟨w.heap.size + 3, 2, none⟩) (Nat.le_add_right _ _) _
  | true =>
    have HBB := Go.Lib.hid hbb
    rw [hbb] at HT
    clear hbb
    go_wp2_with fail
    refine HT.out.mono ?_
    rintro e w2 ⟨rfl, hw⟩
    cases hw
    go_wp2_with fail
    refine (c_bddAnswer (G := 30000) (f := fun c => evF ns1 r1 (fixc i yes c)) HO.out.hv.1 HO.out.hv.2 w1 G_1.out.2 G_1.out.1 (by decide) calls_BddFix (fun fb mb pb v w2 hf hfb hb => c_BddFix1 (B := w1.heap.size) i yes w2 hf hfb hb.size ((N1_1.out.mono hB_1).below hb) HO.out ((cap_box K0_1.out).below hb) (keepc hb (blk_lt K1_1.out) (cell_of_block (i := 0) K1_1.out rfl)) (keepc hb (blk_lt K2_1.out) (cell_of_block (i := 0) K2_1.out rfl)))).mono ?_
    rintro e w2 ⟨x, V, R, bb, ms, rfl, hown, hrel, hq⟩
    have K3_2 := Go.Lib.hid (blk_keep K3_1.out hq)
    have B_2 := Go.Lib.hid (B_1.out.trans (hq.mono B_1.out.size))
    have HKL := Go.Lib.hid (blk_lt K3_1.out)
    have HOW := Go.Lib.hid hown
    have HREL := Go.Lib.hid hrel
    obtain ⟨xa, xc, rfl, -⟩ := OwnN.form hown
    clear hown hrel hq
    have z0 := cell_of_block (i := 0) K3_2.out (v := .int .i64 0) rfl
    have f0 := free_of_block (i := 0) K3_2.out
    have z1 := cell_of_block (i := 1) K3_2.out (v := .slice none 0 0) rfl
    have f1 := free_of_block (i := 1) K3_2.out
    have z2 := cell_of_block (i := 2) K3_2.out (v := .int .i64 0) rfl
    have f2 := free_of_block (i := 2) K3_2.out
    go_wp2_with fail
    refine bodyPost_ret (v := .tuple #[.agg #[.int .i64 V, .slice xa ms.length xc, .int .i64 R], .bool bb]) (results_cell_q (p := 6) (q := 7) rfl _ _ (w.heap.size + 3) 25 _ (0, 0) _ rfl rfl (heap_setCell_same _ _ 2 _ _ _ (heap_setCell_same _ _ 1 _ _ _ (heap_setCell_same _ _ 0 _ _ _ K3_2.out))) Tryd.underlying25 rfl (by kernel_rfl)) rfl ⟨_, _, _, _, ms, rfl, ?_, .inl ⟨⟨HO.out, of_decide_eq_true HBB.out⟩, HREL.out⟩, ?_⟩
    · exact OwnN.mono (OwnN.block HOW.out (fun y h1 _ _ => by have h2 := HKL.out; rw [heap_setCell_other _ _ _ _ (by show y ≠ w.heap.size + 3; omega), heap_setCell_other _ _ _ _ (by show y ≠ w.heap.size + 3; omega), heap_setCell_other _ _ _ _ (by show y ≠ w.heap.size + 3; omega)])) B_1.out.size
    · exact (((B_2.out).setCell (p := ⟨w.heap.size + 3, 0, none⟩) (Nat.le_add_right _ _) _).setCell (p := ⟨w.heap.size + 3, 1, none⟩) (Nat.le_add_right _ _) _).setCell (p := ⟨w.heap.size + 3, 2, none⟩) (Nat.le_add_right _ _) _

set_option maxHeartbeats 8000000 in
theorem c_BddSomeI {B : Nat} {a1 : Option Addr} {len1 cap1 : Nat} {ns1 : List BN} (V1 r1 : Int) (i : Int)  (w : World) (hgl : Glob w) (hBw : B ≤ w.heap.size) (hn1 : BnsAt B w a1 len1 cap1 ns1) :
    Calls Tryd.prog 16 #[.agg #[.int .i64 V1, .slice a1 len1 cap1, .int .i64 r1], .int .i64 i] w (BddQ (CondR (OkB V1 ns1 r1 ∧ 0 ≤ i ∧ i < V1) V1 (fun c => evF ns1 r1 (fixc i false c) || evF ns1 r1 (fixc i true c))) w) := by
  have HGL := Go.Lib.hid hgl
  clear hgl
  have hmf : ∀ (fn : Fn) (first cap : Array Value) (w : World), (Instr.makeFunc fn first cap).run Tryd.prog w = .ok (.func fn first cap) w := fun _ _ _ _ => rfl
  have HN1 := Go.Lib.hid hn1
  clear hn1
  go_enter Tryd.func16, Tryd.ntmps16
  go_upto_region 1 with fail
  refine code_gen (R := fun wb => wb.heap[w.heap.size]? = some (.cells #[.int .i64 V1, .slice a1 len1 cap1, .int .i64 r1] 25 (0, 0)) ∧ wb.heap[w.heap.size + 1]? = some (.cells #[.int .i64 i] 3 (0, 0)) ∧ wb.heap[w.heap.size + 2]? = some (.cells #[.int .i64 0, .slice none 0 0, .int .i64 0] 25 (0, 0)) ∧ Below w.heap.size w wb) ⟨(al3 _ _ _ _).1, (al3 _ _ _ _).2.1, (al3 _ _ _ _).2.2, by go_grown⟩ ?_
  rintro w0 ⟨k0, k1, k2, hb0⟩
  have K0_0 := Go.Lib.hid k0
  have K1_0 := Go.Lib.hid k1
  have K2_0 := Go.Lib.hid k2
  have B_0 := Go.Lib.hid hb0
  have N1_0 := Go.Lib.hid (HN1.out.below (hb0.mono hBw))
  have G_0 := Go.Lib.hid (HGL.out.below hb0)
  have hB_0 : B ≤ w0.heap.size := Nat.le_trans hBw hb0.size
  clear k0 k1 k2 hb0
  have x00 := cell_of_block (i := 0) K0_0.out (v := .int .i64 V1) rfl
  have x01 := cell_of_block (i := 1) K0_0.out (v := .slice a1 len1 cap1) rfl
  have x02 := cell_of_block (i := 2) K0_0.out (v := .int .i64 r1) rfl
  go_wp2_with fail
  refine (c_BddOkI (B := B) V1 r1 w0 hB_0 N1_0.out).mono ?_
  rintro e w1 ⟨hb, hq⟩
  have K0_1 := Go.Lib.hid (blk_keep K0_0.out hq)
  have K1_1 := Go.Lib.hid (blk_keep K1_0.out hq)
  have K2_1 := Go.Lib.hid (blk_keep K2_0.out hq)
  have B_1 := Go.Lib.hid (B_0.out.trans (hq.mono B_0.out.size))
  have N1_1 := Go.Lib.hid (N1_0.out.below (hq.mono hB_0))
  have hB_1 : B ≤ w1.heap.size := Nat.le_trans hB_0 hq.size
  have G_1 := Go.Lib.hid (G_0.out.below hq)
  clear hq x00 x01 x02
  have x00 := cell_of_block (i := 0) K0_1.out (v := .int .i64 V1) rfl
  have x01 := cell_of_block (i := 1) K0_1.out (v := .slice a1 len1 cap1) rfl
  have x02 := cell_of_block (i := 2) K0_1.out (v := .int .i64 r1) rfl
  have x10 := cell_of_block (i := 0) K1_1.out (v := .int .i64 i) rfl
  by_cases ho : OkB V1 ns1 r1
  rotate_left
  · obtain rfl := boolIs_f ho hb
    have HO := Go.Lib.hid ho
    clear ho hb hmf
    have z0 := cell_of_block (i := 0) K2_1.out (v := .int .i64 0) rfl
    have f0 := free_of_block (i := 0) K2_1.out
    have z1 := cell_of_block (i := 1) K2_1.out (v := .slice none 0 0) rfl
    have f1 := free_of_block (i := 1) K2_1.out
    have z2 := cell_of_block (i := 2) K2_1.out (v := .int .i64 0) rfl
    have f2 := free_of_block (i := 2) K2_1.out
    go_wp2_with fail
    refine bodyPost_ret (v := .tuple #[.agg #[.int .i64 0, .slice none 0 0, .int .i64 0], .bool false]) (results_cell_q (p := 4) (q := 5) rfl _ _ (w.heap.size + 2) 25 _ (0, 0) _ rfl rfl (heap_setCell_same _ _ 2 _ _ _ (heap_setCell_same _ _ 1 _ _ _ (heap_setCell_same _ _ 0 _ _ _ K2_1.out))) Tryd.underlying25 rfl (by kernel_rfl)) rfl ⟨_, _, _, _, [], rfl, OwnN.nil _ _, .inr ⟨(fun h => HO.out h.1), rfl, rfl, rfl, rfl⟩, ?_⟩
    exact (((B_1.out).setCell (p := ⟨w.heap.size + 2, 0, none⟩) (Nat.le_add_right _ _) _).setCell (p := ⟨w.heap.size + 2, 1, none⟩) (Nat.le_add_right _ _) _).setCell (p := ⟨w.heap.size + 2, 2, none⟩) (Nat.le_add_right _ _) _
  obtain rfl := boolIs_t ho hb
  have HO := Go.Lib.hid ho
  clear ho hb
  have HT := Go.Lib.hid (c_bitOk V1 i w1)
  cases hbb : bitB V1 i with
  | false =>
    have HBB := Go.Lib.hid hbb
    rw [hbb] at HT
    clear hbb hmf
    go_wp2_with fail
    refine HT.out.mono ?_
    rintro e w2 ⟨rfl, hw⟩
    cases hw
    have z0 := cell_of_block (i := 0) K2_1.out (v := .int .i64 0) rfl
    have f0 := free_of_block (i := 0) K2_1.out
    have z1 := cell_of_block (i := 1) K2_1.out (v := .slice none 0 0) rfl
    have f1 := free_of_block (i := 1) K2_1.out
    have z2 := cell_of_block (i := 2) K2_1.out (v := .int .i64 0) rfl
    have f2 := free_of_block (i := 2) K2_1.out
    go_wp2_with fail
    refine bodyPost_ret (v := .tuple #[.agg #[.int .i64 0, .slice none 0 0, .int .i64 0], .bool false]) (results_cell_q (p := 4) (q := 5) rfl _ _ (w.heap.size + 2) 25 _ (0, 0) _ rfl rfl (heap_setCell_same _ _ 2 _ _ _ (heap_setCell_same _ _ 1 _ _ _ (heap_setCell_same _ _ 0 _ _ _ K2_1.out))) Tryd.underlying25 rfl (by kernel_rfl)) rfl ⟨_, _, _, _, [], rfl, OwnN.nil _ _, .inr ⟨(fun h => of_decide_eq_false HBB.out h.2), rfl, rfl, rfl, rfl⟩, ?_⟩
    exact (((B_1.out).setCell (p := ⟨w.heap.size + 2, 0, none⟩) (Nat.le_add_right _ _) _).setCell (p := ⟨w.heap.size + 2, 1, none⟩) (Nat.le_add_right _ _) _).setCell (p := ⟨w.heap.size + 2, 2, none⟩) (Nat.le_add_right _ _) _
  | true =>
    have HBB := Go.Lib.hid hbb
    rw [hbb] at HT
    clear hbb
    go_wp2_with fail
    refine HT.out.mono ?_
    rintro e w2 ⟨rfl, hw⟩
    cases hw
    go_wp2_with fail
    refine (c_bddAnswer (G := 30000) (f := fun c => evF ns1 r1 (fixc i false c) || evF ns1 r1 (fixc i true c)) HO.out.hv.1 HO.out.hv.2 w1 G_1.out.2 G_1.out.1 (by decide) calls_BddSome (fun fb mb pb v w2 hf hfb hb => c_some1 (B := w1.heap.size) i w2 hf hfb hb.size ((N1_1.out.mono hB_1).below hb) HO.out ((cap_box K0_1.out).below hb) (blk_lt K1_1.out) (keepc hb (blk_lt K1_1.out) (cell_of_block (i := 0) K1_1.out rfl)))).mono ?_
    rintro e w2 ⟨x, V, R, bb, ms, rfl, hown, hrel, hq⟩
    have K2_2 := Go.Lib.hid (blk_keep K2_1.out hq)
    have B_2 := Go.Lib.hid (B_1.out.trans (hq.mono B_1.out.size))
    have HKL := Go.Lib.hid (blk_lt K2_1.out)
    have HOW := Go.Lib.hid hown
    have HREL := Go.Lib.hid hrel
    obtain ⟨xa, xc, rfl, -⟩ := OwnN.form hown
    clear hown hrel hq
    have z0 := cell_of_block (i := 0) K2_2.out (v := .int .i64 0) rfl
    have f0 := free_of_block (i := 0) K2_2.out
    have z1 := cell_of_block (i := 1) K2_2.out (v := .slice none 0 0) rfl
    have f1 := free_of_block (i := 1) K2_2.out
    have z2 := cell_of_block (i := 2) K2_2.out (v := .int .i64 0) rfl
    have f2 := free_of_block (i := 2) K2_2.out
    go_wp2_with fail
    refine bodyPost_ret (v := .tuple #[.agg #[.int .i64 V, .slice xa ms.length xc, .int .i64 R], .bool bb]) (results_cell_q (p := 4) (q := 5) rfl _ _ (w.heap.size + 2) 25 _ (0, 0) _ rfl rfl (heap_setCell_same _ _ 2 _ _ _ (heap_setCell_same _ _ 1 _ _ _ (heap_setCell_same _ _ 0 _ _ _ K2_2.out))) Tryd.underlying25 rfl (by kernel_rfl)) rfl ⟨_, _, _, _, ms, rfl, ?_, .inl ⟨⟨HO.out, of_decide_eq_true HBB.out⟩, HREL.out⟩, ?_⟩
    · exact OwnN.mono (OwnN.block HOW.out (fun y h1 _ _ => by have h2 := HKL.out; rw [heap_setCell_other _ _ _ _ (by show y ≠ w.heap.size + 2; omega), heap_setCell_other _ _ _ _ (by show y ≠ w.heap.size + 2; omega), heap_setCell_other _ _ _ _ (by show y ≠ w.heap.size + 2; omega)])) B_1.out.size
    · exact (((B_2.out).setCell (p := ⟨w.heap.size + 2, 0, none⟩) (Nat.le_add_right _ _) _).setCell (p := ⟨w.heap.size + 2, 1, none⟩) (Nat.le_add_right _ _) _).setCell (p := ⟨w.heap.size + 2, 2, none⟩) (Nat.le_add_right _ _) _
end Go.Proofs.YthdofdglbdfkkaaDoor
