/-
  When a diagram is one: the program.
-/
import Derived.Test.YthdofdglbdfkkaaDoorRows
import Derived.Test.YthdofdglbdfkkaaDoorG0
import Derived.Test.YthdofdglbdfkkaaDoorBdM
import Derived.DeepKeys4
import Derived.WideKeyArgs
import Derived.WalkKit
import Derived.ProofKit
import Derived.OpenShut
import Derived.WalkSpells
import Derived.WalkLawsBesides
import Derived.Outline
import Derived.BigQuiet
import Derived.Handy
import Derived.LoopTactic
import Derived.Deep.Light
import Derived.Deep.RegionWith
import Derived.Deep.RegionHeld3
import Derived.Deep.DeepCutAuto
import Derived.Lib.Hide
import Derived.Maps.OwnRows
import Derived.Deep.Onto
import Derived.OneCell
import Derived.StillTailTactics
import Derived.Deep.AppendLies
import Derived.Deep.RegionLaw
namespace Go.Proofs.YthdofdglbdfkkaaDoor
open Go.ChangeShapes Go.WideShapes Go.ChangeAt Go.RowKit Go.Maps Go.ChangeMaps
set_option linter.unusedVariables false
set_option maxRecDepth 100000


def bitB (vars i : Int) : Bool := decide (0 ≤ i ∧ i < vars)
def varsB (n : Int) : Bool := decide (0 ≤ n ∧ n ≤ 13)
def aheadB (p n : Int) : Bool := decide (0 ≤ p ∧ p < n + 2)
def leadB (ns : List BN) (k : Nat) (v p : Int) : Bool := decide (0 ≤ p ∧ p < (k : Int) + 2 ∧ (p < 2 ∨ v < (ns.getD (p - 2).toNat default).v))
theorem c_bddVarsOk (n : Int) (w : World) : Calls Tryd.prog 45 #[.int .i64 n] w fun e w' => e = .returned (.bool (varsB n)) ∧ w' = w := by
  by_cases h : 0 ≤ n
  · go_enter Tryd.func45, Tryd.ntmps45
    go_wp2
    go_ret
    exact ⟨ret_bool (by unfold varsB; simp [h]), rfl⟩
  · go_enter Tryd.func45, Tryd.ntmps45
    go_wp2
    go_ret
    exact ⟨ret_bool (by unfold varsB; simp; omega), rfl⟩
theorem c_bitOk (n i : Int) (w : World) : Calls Tryd.prog 46 #[.int .i64 n, .int .i64 i] w fun e w' => e = .returned (.bool (bitB n i)) ∧ w' = w := by
  by_cases h : 0 ≤ i
  · go_enter Tryd.func46, Tryd.ntmps46
    go_wp2
    go_ret
    exact ⟨ret_bool (by unfold bitB; simp [h]), rfl⟩
  · go_enter Tryd.func46, Tryd.ntmps46
    go_wp2
    go_ret
    exact ⟨ret_bool (by unfold bitB; simp; omega), rfl⟩
theorem c_isAhead (p n : Int) (h0 : 0 ≤ n) (h1 : n ≤ 1048576) (w : World) : Calls Tryd.prog 72 #[.int .i64 p, .int .i64 n] w fun e w' => e = .returned (.bool (aheadB p n)) ∧ w' = w := by
  by_cases h : 0 ≤ p
  · go_enter Tryd.func72, Tryd.ntmps72
    go_wp2
    go_ret
    exact ⟨ret_bool (by unfold aheadB; simp [h]), rfl⟩
  · go_enter Tryd.func72, Tryd.ntmps72
    go_wp2
    go_ret
    exact ⟨ret_bool (by unfold aheadB; simp; omega), rfl⟩

theorem c_leadsOn {B : Nat} {a : Option Addr} {len cap : Nat} {ns : List BN} (k : Nat) (v p : Int) (w : World) (h : BnsAt B w a len cap ns) (hl : len ≤ 600) (hk : k ≤ len) :
    Calls Tryd.prog 91 #[.slice a k cap, .int .i64 v, .int .i64 p] w fun e w' => e = .returned (.bool (leadB ns k v p)) ∧ w' = w := by
  have HN := Go.Lib.hid h
  clear h
  cases ha : aheadB p (k : Int) with
  | false =>
    have HA := Go.Lib.hid ha
    have HL := Go.Lib.hid (show leadB ns k v p = false by unfold aheadB at ha; have := of_decide_eq_false ha; unfold leadB; simp; omega)
    clear ha
    go_enter Tryd.func91, Tryd.ntmps91
    go_wp2_with fail
    refine (c_isAhead p k (by omega) (by omega) w).mono ?_
    rintro e w' ⟨rfl, rfl⟩
    rw [HA.out]
    go_wp2_with fail
    go_ret
    exact ⟨ret_bool HL.out.symm, rfl⟩
  | true =>
    have ha' := of_decide_eq_true ha
    have HA := Go.Lib.hid ha
    clear ha
    obtain ⟨h0, h1⟩ := ha'
    by_cases h2 : p < 2
    · have HL := Go.Lib.hid (show leadB ns k v p = true by unfold leadB; simp; omega)
      go_enter Tryd.func91, Tryd.ntmps91
      go_wp2_with fail
      refine (c_isAhead p k (by omega) (by omega) w).mono ?_
      rintro e w' ⟨rfl, rfl⟩
      rw [HA.out]
      go_wp2_with fail
      go_ret
      exact ⟨ret_bool HL.out.symm, rfl⟩
    · obtain ⟨x, b, off, hx, -, rfl, hbB, c0, -, -⟩ := bn_at HN.out (show (p - 2).toNat < len by omega)
      obtain ⟨q, hq⟩ : ∃ q : Nat, p = (q : Int) + 2 := ⟨(p - 2).toNat, by omega⟩
      subst hq
      have e2 : ((q : Int) + 2 - 2).toNat = q := by omega
      have HL := Go.Lib.hid (show leadB ns k v ((q : Int) + 2) = decide (v < x.v) by unfold leadB; rw [← hx]; apply dec_iff; omega)
      rw [e2] at c0
      clear hx
      have e3 : (q : Int) + 2 - 2 = q := by omega
      have hqk : (q : Int) < k := by omega
      go_enter Tryd.func91, Tryd.ntmps91
      go_wp2_with fail
      refine (c_isAhead _ k (by omega) (by omega) w).mono ?_
      rintro e w' ⟨rfl, rfl⟩
      rw [HA.out]
      go_wp2_with fail
      go_ret
      exact ⟨ret_bool HL.out.symm, rfl⟩

theorem RowsAt.drewN {α : Type} {cells : α → List Value} {ok : α → Prop} {c B : Nat} {w : World} {a : Option Addr} {len cap : Nat} {ns : List α} (h : RowsAt cells ok c B w a len cap ns) (m : Nat) : RowsAt cells ok c B (w.drewN m) a len cap ns := h
/-- A node by the program's test. -/
def fineB (vars : Int) (ns : List BN) (k : Nat) : Bool := bitB vars (ns.getD k default).v && !((ns.getD k default).lo == (ns.getD k default).hi) && leadB ns k (ns.getD k default).v (ns.getD k default).lo && leadB ns k (ns.getD k default).v (ns.getD k default).hi
theorem leadB_iff {vars : Int} {ns : List BN} {k : Nat} {v p : Int} (hv : v < vars) : leadB ns k v p = true ↔ (0 ≤ p ∧ p ≤ (k : Int) + 1) ∧ v < vAt vars ns p := by
  unfold leadB vAt
  rw [decide_eq_true_iff]
  by_cases h : p < 2
  · rw [if_pos h]; constructor
    · rintro ⟨a, b, -⟩; exact ⟨⟨a, by omega⟩, hv⟩
    · rintro ⟨⟨a, b⟩, -⟩; exact ⟨a, by omega, .inl h⟩
  · rw [if_neg h]; constructor
    · rintro ⟨a, b, c⟩; exact ⟨⟨a, by omega⟩, by omega⟩
    · rintro ⟨⟨a, b⟩, c⟩; exact ⟨a, by omega, .inr c⟩
theorem fineB_iff {vars : Int} {ns : List BN} {k : Nat} : fineB vars ns k = true ↔ nFine vars ns k := by
  unfold fineB nFine
  simp only [Bool.and_eq_true, Bool.not_eq_true', beq_eq_false_iff_ne]
  constructor
  · rintro ⟨⟨⟨h1, h2⟩, h3⟩, h4⟩
    have h1' := of_decide_eq_true h1
    obtain ⟨a, b⟩ := (leadB_iff h1'.2).1 h3
    obtain ⟨c, d⟩ := (leadB_iff h1'.2).1 h4
    exact ⟨h1', h2, a, c, b, d⟩
  · rintro ⟨h1, h2, a, c, b, d⟩
    exact ⟨⟨⟨decide_eq_true h1, h2⟩, (leadB_iff h1.2).2 ⟨a, b⟩⟩, (leadB_iff h1.2).2 ⟨c, d⟩⟩
/-- The box of a diagram. -/
structure BBox (vars : Int) (a : Option Addr) (len cap : Nat) (root : Int) (w wr : World) : Prop where
  blk : wr.heap[w.heap.size]? = some (.cells #[.int .i64 vars, .slice a len cap, .int .i64 root] 25 (0, 0))
  bel : Below w.heap.size w wr
theorem BBox.lt {vars : Int} {a : Option Addr} {len cap : Nat} {root : Int} {w wr : World} (h : BBox vars a len cap root w wr) : w.heap.size < wr.heap.size := (Array.getElem?_eq_some_iff.1 h.blk).1
theorem BBox.below {vars : Int} {a : Option Addr} {len cap : Nat} {root : Int} {w wr w' : World} (h : BBox vars a len cap root w wr) (hb : Below wr.heap.size wr w') : BBox vars a len cap root w w' := ⟨(hb.block _ h.lt).trans h.blk, h.bel.trans (hb.mono h.bel.size)⟩
theorem BBox.new (vars : Int) (a : Option Addr) (len cap : Nat) (root : Int) (w : World) : BBox vars a len cap root w (w.alloc (.cells #[.int .i64 vars, .slice a len cap, .int .i64 root] 25)) := ⟨(MapKept.heap_alloc _ _).1, by go_grown⟩
theorem BBox.cells {vars : Int} {a : Option Addr} {len cap : Nat} {root : Int} {w wr : World} (h : BBox vars a len cap root w wr) : wr.cell? ⟨w.heap.size, 0, none⟩ = some (.int .i64 vars) ∧ wr.cell? ⟨w.heap.size, 1, none⟩ = some (.slice a len cap) ∧ wr.cell? ⟨w.heap.size, 2, none⟩ = some (.int .i64 root) :=
  ⟨cell_of_block h.blk rfl, cell_of_block h.blk rfl, cell_of_block h.blk rfl⟩

end Go.Proofs.YthdofdglbdfkkaaDoor
