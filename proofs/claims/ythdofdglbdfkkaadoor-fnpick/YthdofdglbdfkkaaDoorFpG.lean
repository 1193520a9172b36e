/-
  What is drawn for a diagram, one in ten spoilt: nodes that can be read.
-/
import Derived.Test.YthdofdglbdfkkaaDoorRows
import Derived.Test.YthdofdglbdfkkaaDoorPaA
import Derived.Test.YthdofdglbdfkkaaDoorG0
import Derived.Test.YthdofdglbdfkkaaDoorRd
import Derived.Test.YthdofdglbdfkkaaDoorBdT
import Derived.Test.YthdofdglbdfkkaaDoorBdN
import Derived.Test.YthdofdglbdfkkaaDoorBdY
import Derived.Test.YthdofdglbdfkkaaDoorFoO
import Derived.Test.YthdofdglbdfkkaaDoorFoP
import Derived.Test.YthdofdglbdfkkaaDoorFpB
import Derived.Test.YthdofdglbdfkkaaDoorFpD
import Derived.WalkKit
import Derived.ProofKit
import Derived.OpenShut
import Derived.WalkSpells
import Derived.WalkLawsBesides
import Derived.Outline
import Derived.BigQuiet
import Derived.Handy
import Derived.LoopTactic
import Derived.Deep.Light
import Derived.Deep.RegionWith
import Derived.Deep.RegionHeld3
import Derived.Deep.DeepCutAuto
import Derived.Lib.Hide
import Derived.Maps.OwnRows
import Derived.Deep.Onto
import Derived.OneCell
import Derived.StillTailTactics
import Derived.Deep.AppendLies
import Derived.Deep.RegionLaw
namespace Go.Proofs.YthdofdglbdfkkaaDoor
open Go.ChangeShapes Go.WideShapes Go.ChangeAt Go.RowKit Go.Maps Go.ChangeMaps
set_option linter.unusedVariables false
set_option maxRecDepth 100000

/-- Nodes, whatever they are. -/
structure NodesE (g n : Nat) (w : World) : Prop where
  lt : g < w.heap.size
  c : ∀ j : Nat, j < n * 3 → (∃ z : Int, fits z ∧ w.cell? ⟨g, j, none⟩ = some (.int .i64 z)) ∧ w.frozen? ⟨g, j, none⟩ = false
theorem NodesE.put {g n x : Nat} {w : World} {z : Int} (h : NodesE g n w) (hx : x < n * 3) (hz : fits z) : NodesE g n (w.setCell ⟨g, x, none⟩ (.int .i64 z)) := by
  refine ⟨by simpa [World.setCell] using h.lt, fun j hj => ⟨?_, ?_⟩⟩
  · obtain ⟨y, hy, hc⟩ := (h.c j hj).1
    by_cases e : j = x
    · subst e
      exact ⟨z, hz, World.cell?_setCell_same' _ _ _ (by rw [hc]; rfl)⟩
    · exact ⟨y, hy, (World.cell?_setCell_other w _ _ _ (fun e2 => e (by have := (Addr.mk.inj e2).2.1; omega))).trans hc⟩
  · rw [World.frozen?_setCell]; exact (h.c j hj).2
theorem NodesE.same {g n : Nat} {w w' : World} (h : NodesE g n w) (hb : w'.heap[g]? = w.heap[g]?) (hs : w.heap.size ≤ w'.heap.size) : NodesE g n w' :=
  ⟨Nat.lt_of_lt_of_le h.lt hs, fun j hj => by
    have e1 : w'.cell? ⟨g, j, none⟩ = w.cell? ⟨g, j, none⟩ := World.cell?_of_block (w := w) (w' := w') (a := ⟨g, j, none⟩) hb
    have e2 : w'.frozen? ⟨g, j, none⟩ = w.frozen? ⟨g, j, none⟩ := by simp only [World.frozen?, hb]
    rw [e1, e2]; exact h.c j hj⟩
/-- A list of nodes, laid above a block, or none. -/
def NodesV (base : Nat) (xa : Option Addr) (xl xc : Nat) (w : World) : Prop := (xa = none ∧ xl = 0 ∧ xc = 0) ∨ ∃ g, xa = some ⟨g, 0, none⟩ ∧ base ≤ g ∧ xl ≤ xc ∧ xc ≤ maxLen ∧ NodesE g xl w
theorem NodesV.same {base : Nat} {xa : Option Addr} {xl xc : Nat} {w w' : World} (h : NodesV base xa xl xc w) (hb : ∀ g, base ≤ g → g < w.heap.size → xa = some ⟨g, 0, none⟩ → w'.heap[g]? = w.heap[g]?) (hs : w.heap.size ≤ w'.heap.size) : NodesV base xa xl xc w' := by
  rcases h with h | ⟨g, h1, h2, h3, h4, h5⟩
  · exact .inl h
  · exact .inr ⟨g, h1, h2, h3, h4, h5.same (hb g h2 h5.lt h1) hs⟩
theorem NodesV.below {base : Nat} {xa : Option Addr} {xl xc : Nat} {w w' : World} (h : NodesV base xa xl xc w) (hb : Below w.heap.size w w') : NodesV base xa xl xc w' := h.same (fun g _ hl _ => hb.block g hl) hb.size
theorem NodesV.only {base R : Nat} {xa : Option Addr} {xl xc : Nat} {w w' : World} (h : NodesV base xa xl xc w) (hO : Only R w w') (hR : R < base) : NodesV base xa xl xc w' := h.same (fun g h1 h2 _ => hO.block g h2 (by omega)) hO.size
theorem NodesV.mono {base base' : Nat} {xa : Option Addr} {xl xc : Nat} {w : World} (h : NodesV base xa xl xc w) (hb : base' ≤ base) : NodesV base' xa xl xc w := by
  rcases h with h | ⟨g, h1, h2, h3⟩
  · exact .inl h
  · exact .inr ⟨g, h1, by omega, h3⟩
theorem NodesV.bns {base : Nat} {xa : Option Addr} {xl xc : Nat} {w : World} (h : NodesV base xa xl xc w) : ∃ ms, BnsAt w.heap.size w xa xl xc ms := by
  rcases h with ⟨rfl, rfl, rfl⟩ | ⟨g, rfl, h2, h3, h4, h5⟩
  · exact ⟨[], rfl, Nat.le_refl _, Nat.zero_le _, by simp, fun _ => rfl, .inl rfl⟩
  · obtain ⟨f, hf⟩ := Go.Deep.choose_lt (n := xl) (p := fun i (nd : BN) => nd.ok ∧ ∀ j, j < 3 → w.cell? ⟨g, i * 3 + j, none⟩ = nd.cells[j]?) (fun i hi => by
      obtain ⟨a, ha, ca⟩ := (h5.c (i * 3) (by omega)).1
      obtain ⟨b, hb, cb⟩ := (h5.c (i * 3 + 1) (by omega)).1
      obtain ⟨c, hc, cc⟩ := (h5.c (i * 3 + 2) (by omega)).1
      refine ⟨⟨a, b, c⟩, ⟨ha, hb, hc⟩, fun j hj => ?_⟩
      rcases (by omega : j = 0 ∨ j = 1 ∨ j = 2) with rfl | rfl | rfl
      · exact ca
      · exact cb
      · exact cc)
    refine ⟨(List.range xl).map f, by simp, h3, h4, ?_, fun e => by simp at e, .inr ⟨g, 0, rfl, h5.lt, fun i hi j hj => ?_⟩⟩
    · intro y hy
      simp only [List.mem_map, List.mem_range] at hy
      obtain ⟨i, hi, rfl⟩ := hy
      exact (hf i hi).1
    · have hi' : i < xl := by simpa using hi
      have := (hf i hi').2 j hj
      rw [Nat.zero_add, this]; simp
theorem OwnN.nodes {w : World} {base : Nat} {a : Option Addr} {cap : Nat} {ns : List BN} (h : OwnN w base (.slice a ns.length cap) ns) : NodesV base a ns.length cap w := by
  have hB := OwnN.bns h rfl
  obtain ⟨a', c', e, hf⟩ := OwnN.form h
  simp only [Value.slice.injEq, true_and] at e
  obtain ⟨rfl, rfl⟩ := e
  rcases hf with hf | ⟨g, rfl, hb, hr⟩
  · exact .inl hf
  · refine .inr ⟨g, rfl, hb, hB.2.1, hB.2.2.1, (h.1.lt g rfl).2, fun j hj => ?_⟩
    obtain ⟨h1, h2, h3, h4, h5, h6⟩ := hB
    have hf0 := h.1.frozenAt j
    refine ⟨?_, hf0⟩
    rcases h6 with h6 | ⟨b, off, e, hlt, hc⟩
    · omega
    · simp only [Option.some.injEq, Addr.mk.injEq, and_true] at e
      obtain ⟨rfl, rfl⟩ := e
      have h7 := hc (j / 3) (by omega) (j % 3) (by omega)
      have e1 : 0 + j / 3 * 3 + j % 3 = j := by omega
      rw [e1] at h7
      have hok := h4 _ (List.getElem_mem (show j / 3 < ns.length by omega))
      rw [h7]
      rcases (by omega : j % 3 = 0 ∨ j % 3 = 1 ∨ j % 3 = 2) with e | e | e <;> rw [e]
      · exact ⟨_, hok.1, rfl⟩
      · exact ⟨_, hok.2.1, rfl⟩
      · exact ⟨_, hok.2.2, rfl⟩

/-- What is drawn: a diagram that can be read. -/
def DgQ (B R : Nat) (p V0 V1 : Int) (n : Nat) (w : World) (e : Ending) (w' : World) : Prop :=
  ∃ V xa xl xc Rt, e = .returned (.agg #[.int .i64 V, .slice xa xl xc, .int .i64 Rt]) ∧ NodesV w.heap.size xa xl xc w' ∧ xl ≤ n ∧ (V0 ≤ V ∧ V ≤ V1) ∧ RdTo B R p w' ∧ Only R w w'
/-- A diagram of one's own, drawn. -/
def SdQ (B R : Nat) (p vars : Int) (w : World) (e : Ending) (w' : World) : Prop :=
  ∃ x ms Rt, e = .returned (.agg #[.int .i64 vars, x, .int .i64 Rt]) ∧ OwnN w' (w.heap.size + 1) x ms ∧ ms.length ≤ 600 ∧ RdTo B R p w' ∧ Only R w w'

set_option maxHeartbeats 4000000 in
theorem c_sound {B R : Nat} {p : Int} (vars : Int) (w : World) (h : RdTo B R p w) (hp1 : p < 700000) :
    Calls Tryd.prog 77 #[.pointer (some ⟨R, 0, none⟩), .int .i64 vars] w (SdQ B R (p + 8200) vars w) := by
  have H := Go.Lib.hid h
  clear h
  go_enter Tryd.func77, Tryd.ntmps77
  go_upto_region 1 with fail
  refine code_gen (R := fun wb => DrAt B R p w wb) ⟨H.out.alloc _, (Only.refl R w).alloc _, (MapKept.heap_alloc _ _).1, H.out.lt⟩ ?_
  intro w0 hd
  have DR := Go.Lib.hid hd
  clear hd
  have HV := Go.Lib.hid (c_l7Vars vars w0)
  cases hv : varsB vars with
  | false =>
    rw [hv] at HV
    clear hv
    go_wp2_with fail
    refine HV.out.mono ?_
    rintro e w1 ⟨rfl, hw⟩
    cases hw
    have z0 := cell_of_block (i := 0) DR.out.k0 (v := .int .i64 0) rfl
    have fz0 := free_of_block (i := 0) DR.out.k0
    have z1 := cell_of_block (i := 1) DR.out.k0 (v := .slice none 0 0) rfl
    have fz1 := free_of_block (i := 1) DR.out.k0
    have z2 := cell_of_block (i := 2) DR.out.k0 (v := .int .i64 0) rfl
    have fz2 := free_of_block (i := 2) DR.out.k0
    go_wp2_with fail
    refine bodyPost_ret (v := .agg #[.int .i64 vars, .slice none 0 0, .int .i64 0]) (results_cell_row rfl _ _ w.heap.size 25 _ (0, 0) _ rfl (heap_setCell_same _ _ 2 _ _ _ (heap_setCell_same _ _ 1 _ _ _ (heap_setCell_same _ _ 0 _ _ _ DR.out.k0))) Tryd.underlying25 rfl (by kernel_rfl)) rfl ⟨_, [], _, rfl, OwnN.nil _ _, by decide, (DR.out.fin _ _ _).1.mono (by omega), (DR.out.fin _ _ _).2⟩
  | true =>
    have hv13 : 0 ≤ vars ∧ vars ≤ 13 := of_decide_eq_true hv
    rw [hv] at HV
    clear hv
    go_wp2_with fail
    refine HV.out.mono ?_
    rintro e w1 ⟨rfl, hw⟩
    cases hw
    go_wp2_with fail
    refine (c_set vars w0 DR.out.rd hp1 hv13.1 hv13.2).mono ?_
    rintro e w2 ⟨x, Rt, ms, rfl, how, ⟨f, hf⟩, hr, ho⟩
    have hbase : w.heap.size + 1 ≤ w0.heap.size := blk_lt DR.out.k0
    replace DR := Go.Lib.hid (DR.out.only ho hr)
    have HOW := Go.Lib.hid (OwnN.mono how hbase)
    have HL := Go.Lib.hid hf.len
    obtain ⟨xa, xc, rfl, -⟩ := OwnN.form how
    have HK := Go.Lib.hid (show ∀ y, Value.ownBlock (.slice xa ms.length xc) = some y → y ≠ w.heap.size from fun y hy => by have h1 := (how.1.lt y hy).1; omega)
    clear how hf hr ho hbase f
    have z0 := cell_of_block (i := 0) DR.out.k0 (v := .int .i64 0) rfl
    have fz0 := free_of_block (i := 0) DR.out.k0
    have z1 := cell_of_block (i := 1) DR.out.k0 (v := .slice none 0 0) rfl
    have fz1 := free_of_block (i := 1) DR.out.k0
    have z2 := cell_of_block (i := 2) DR.out.k0 (v := .int .i64 0) rfl
    have fz2 := free_of_block (i := 2) DR.out.k0
    go_wp2_with fail
    refine bodyPost_ret (v := .agg #[.int .i64 vars, .slice xa ms.length xc, .int .i64 Rt]) (results_cell_row rfl _ _ w.heap.size 25 _ (0, 0) _ rfl (heap_setCell_same _ _ 2 _ _ _ (heap_setCell_same _ _ 1 _ _ _ (heap_setCell_same _ _ 0 _ _ _ DR.out.k0))) Tryd.underlying25 rfl (by kernel_rfl)) rfl ⟨_, ms, _, rfl, ((HOW.out.off HK.out).off HK.out).off HK.out, HL.out, (DR.out.fin _ _ _).1.mono (by omega), (DR.out.fin _ _ _).2⟩
end Go.Proofs.YthdofdglbdfkkaaDoor
