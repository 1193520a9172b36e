/-
  The program's functions that give a diagram.
-/
import Derived.Test.YthdofdglbdfkkaaRows
import Derived.Test.YthdofdglbdfkkaaFoY
import Derived.Test.YthdofdglbdfkkaaFoZ
import Derived.WalkKit
import Derived.ProofKit
import Derived.OpenShut
import Derived.WalkSpells
import Derived.WalkLawsBesides
import Derived.Outline
import Derived.BigQuiet
import Derived.Handy
import Derived.LoopTactic
import Derived.Deep.Light
import Derived.Deep.RegionWith
import Derived.Deep.RegionHeld3
import Derived.Deep.DeepCutAuto
import Derived.Lib.Hide
import Derived.Maps.OwnRows
import Derived.Deep.Onto
import Derived.OneCell
import Derived.StillTailTactics
import Derived.Deep.AppendLies
import Derived.Deep.RegionLaw
namespace Go.Proofs.Ythdofdglbdfkkaa
open Go.ChangeShapes Go.WideShapes Go.ChangeAt Go.RowKit Go.Maps Go.ChangeMaps
set_option linter.unusedVariables false
set_option maxRecDepth 100000

/-- An answer under a condition, nothing else. -/
def CondR (P : Prop) (vars : Int) (f : Int → Bool) (V : Int) (ms : List BN) (R : Int) (b : Bool) : Prop :=
  (P ∧ AnsR vars f V ms R b) ∨ (¬ P ∧ V = 0 ∧ ms = [] ∧ R = 0 ∧ b = false)
theorem CondR.inj {P : Prop} {vars : Int} {f : Int → Bool} (hP : P → 0 ≤ vars) {V V' : Int} {ms ms' : List BN} {R R' : Int} {b b' : Bool} (h : CondR P vars f V ms R b) (k : CondR P vars f V' ms' R' b') : V = V' ∧ ms = ms' ∧ R = R' ∧ b = b' := by
  rcases h with ⟨h0, h1⟩ | ⟨h0, rfl, rfl, rfl, rfl⟩ <;> rcases k with ⟨k0, k1⟩ | ⟨k0, rfl, rfl, rfl, rfl⟩
  · exact h1.inj (hP h0) k1
  · exact absurd h0 k0
  · exact absurd k0 h0
  · exact ⟨rfl, rfl, rfl, rfl⟩
theorem CondR.len {P : Prop} {vars : Int} {f : Int → Bool} {V : Int} {ms : List BN} {R : Int} {b : Bool} (h : CondR P vars f V ms R b) : ms.length ≤ 600 := by
  rcases h with ⟨h0, h1⟩ | ⟨h0, -, rfl, -, -⟩
  · exact h1.len
  · decide
/-- The variable of a value that is laid at the start is there. -/
def Glob (w : World) : Prop := 0 < w.heap.size ∧ ∃ u x, w.cell? ⟨0, 0, none⟩ = some (.iface u x)
theorem Glob.below {w w' : World} (h : Glob w) (hb : Below w.heap.size w w') : Glob w' := by
  obtain ⟨h0, u, x, hc⟩ := h
  exact ⟨Nat.lt_of_lt_of_le h0 hb.size, u, x, keepc hb h0 hc⟩
theorem al2 (w : World) (o0 o1 : Obj) : ((w.alloc o0).alloc o1).heap[w.heap.size]? = some o0 ∧ ((w.alloc o0).alloc o1).heap[w.heap.size + 1]? = some o1 := by
  refine ⟨?_, ?_⟩ <;> (show ((w.heap.push o0).push o1)[_]? = _; simp only [Array.getElem?_push, Array.size_push]; repeat (first | rw [if_pos trivial] | rw [if_pos rfl] | rw [if_neg (by omega)]))
theorem al3 (w : World) (o0 o1 o2 : Obj) : (((w.alloc o0).alloc o1).alloc o2).heap[w.heap.size]? = some o0 ∧ (((w.alloc o0).alloc o1).alloc o2).heap[w.heap.size + 1]? = some o1 ∧ (((w.alloc o0).alloc o1).alloc o2).heap[w.heap.size + 2]? = some o2 := by
  refine ⟨?_, ?_, ?_⟩ <;> (show (((w.heap.push o0).push o1).push o2)[_]? = _; simp only [Array.getElem?_push, Array.size_push]; repeat (first | rw [if_pos trivial] | rw [if_pos rfl] | rw [if_neg (by omega)]))
theorem al4 (w : World) (o0 o1 o2 o3 : Obj) : ((((w.alloc o0).alloc o1).alloc o2).alloc o3).heap[w.heap.size]? = some o0 ∧ ((((w.alloc o0).alloc o1).alloc o2).alloc o3).heap[w.heap.size + 1]? = some o1 ∧ ((((w.alloc o0).alloc o1).alloc o2).alloc o3).heap[w.heap.size + 2]? = some o2 ∧ ((((w.alloc o0).alloc o1).alloc o2).alloc o3).heap[w.heap.size + 3]? = some o3 := by
  refine ⟨?_, ?_, ?_, ?_⟩ <;> (show ((((w.heap.push o0).push o1).push o2).push o3)[_]? = _; simp only [Array.getElem?_push, Array.size_push]; repeat (first | rw [if_pos trivial] | rw [if_pos rfl] | rw [if_neg (by omega)]))
theorem blk_lt {w : World} {g : Nat} {o : Obj} (h : w.heap[g]? = some o) : g < w.heap.size := (Array.getElem?_eq_some_iff.1 h).1
theorem blk_keep {w w' : World} {g : Nat} {o : Obj} (h : w.heap[g]? = some o) (hb : Below w.heap.size w w') : w'.heap[g]? = some o := (hb.block _ (blk_lt h)).trans h
theorem cap_box {vars root : Int} {a : Option Addr} {len cap c : Nat} {w : World} (h : w.heap[c]? = some (.cells #[.int .i64 vars, .slice a len cap, .int .i64 root] 25 (0, 0))) : CapB w.heap.size c vars a len cap root w :=
  ⟨blk_lt h, cell_of_block (i := 0) h rfl, cell_of_block (i := 1) h rfl, cell_of_block (i := 2) h rfl⟩
theorem CapB.below {B c : Nat} {vars root : Int} {a : Option Addr} {len cap : Nat} {w w' : World} (h : CapB B c vars a len cap root w) (hb : Below B w w') : CapB B c vars a len cap root w' :=
  ⟨h.lt, kc hb h.lt h.c0, kc hb h.lt h.c1, kc hb h.lt h.c2⟩
def PairP (V1 : Int) (ns1 : List BN) (r1 V2 : Int) (ns2 : List BN) (r2 : Int) : Prop := V1 = V2 ∧ OkB V1 ns1 r1 ∧ OkB V2 ns2 r2
def TriP (V1 : Int) (ns1 : List BN) (r1 V2 : Int) (ns2 : List BN) (r2 V3 : Int) (ns3 : List BN) (r3 : Int) : Prop := PairP V1 ns1 r1 V2 ns2 r2 ∧ PairP V1 ns1 r1 V3 ns3 r3
end Go.Proofs.Ythdofdglbdfkkaa
