/-
  The door: a diagram that grows too large is caught.
-/
import Derived.Test.YthdofdglbdfkkaaRows
import Derived.Test.YthdofdglbdfkkaaFoT
import Derived.Test.YthdofdglbdfkkaaFoV
import Derived.WalkKit
import Derived.ProofKit
import Derived.OpenShut
import Derived.WalkSpells
import Derived.WalkLawsBesides
import Derived.Outline
import Derived.BigQuiet
import Derived.Handy
import Derived.LoopTactic
import Derived.Deep.Light
import Derived.Deep.RegionWith
import Derived.Deep.RegionHeld3
import Derived.Deep.DeepCutAuto
import Derived.Lib.Hide
import Derived.Maps.OwnRows
import Derived.Deep.Onto
import Derived.OneCell
import Derived.StillTailTactics
import Derived.Deep.AppendLies
import Derived.Deep.RegionLaw
import Derived.Defers
import Derived.Recover
namespace Go.Proofs.Ythdofdglbdfkkaa
open Go.ChangeShapes Go.WideShapes Go.ChangeAt Go.RowKit Go.Maps Go.ChangeMaps
set_option linter.unusedVariables false
set_option maxRecDepth 100000

theorem heap_snd (w : World) (o o' : Obj) : ((w.alloc o).alloc o').heap[w.heap.size + 1]? = some o' := by
  have e : w.heap.size + 1 = (w.alloc o).heap.size := by show _ = (w.heap.push _).size; simp
  rw [e]
  exact (MapKept.heap_alloc _ _).1
theorem bddInfo : (Try.prog.info? 25).map (fun i => (i.zero, i.size, i.bytes)) = some (some (.agg #[.int .i64 0, .slice none 0 0, .int .i64 0]), 3, 40) := by kernel_rfl
/-- The answers, whole. -/
def AnsL (vars : Int) (f : Int → Bool) (w : World) (e : Ending) (w' : World) : Prop :=
  ∃ t : DT, t.Red vars 0 ∧ (∀ c, 0 ≤ c → c < 2 ^ vars.toNat → t.ev c = f c) ∧ Below w.heap.size w w' ∧
    ((∃ g cap x ms R, e = .returned (.tuple #[.slice (some ⟨g, 0, none⟩) 1 cap, .bool true]) ∧ w'.cell? ⟨g, 0, none⟩ = some (.int .i64 vars) ∧ w'.cell? ⟨g, 1, none⟩ = some x ∧ w'.cell? ⟨g, 2, none⟩ = some (.int .i64 R) ∧ OwnN w' w.heap.size x ms ∧ Adds t [] ms R ∧ ms.length ≤ 600) ∨
      (e = .returned (.tuple #[.slice none 0 0, .bool false]) ∧ ∀ ms R, Adds t [] ms R → 600 < ms.length))

theorem leaves_same {P : Program} {fn : Func} {R : Ending → World → Prop} {t t' : Array Value} (h : ∀ w, (results fn t).run P w = (results fn t').run P w) : ∀ (ds : List Deferred) (u : FrameMode) (w : World), Leaves P fn t R ds u w → Leaves P fn t' R ds u w := by
  intro ds
  induction ds with
  | nil =>
    intro u w hl
    cases u with
    | returning => obtain ⟨v, hr, hR⟩ := hl; exact ⟨v, (h w).symm.trans hr, hR⟩
    | panicking c => exact hl
    | run => exact hl
  | cons d ds ih =>
    intro u w hl
    obtain ⟨h1, fv, cap, f, args, h2, h3, h4⟩ := hl
    refine ⟨h1, fv, cap, f, args, h2, h3, h4.mono ?_⟩
    intro e u' w' he
    cases e with
    | returned v => exact ih _ _ he
    | panicked c => exact ih _ _ he
    | outgrown => exact he
theorem far0 {w w4 : World} {o : Obj} {k : Nat} (hg : (w.alloc o).grownBy w4 (Value.slice none 0 0).ownBlock) (hk : k < w.heap.size) : w4.heap[k]? = w.heap[k]? :=
  (hg.block k (Nat.lt_trans hk (alloc_ltS w o)) (by simp [Value.ownBlock])).trans (Below.heap_alloc w _ _ hk)
theorem news3 (w : World) (vars R : Int) (xa : Option Addr) (n xc : Nat) : ∀ (j : Nat) (u : Value), [Value.int .i64 vars, .slice xa n xc, .int .i64 R][j]? = some u → (w.alloc (.cells #[.int .i64 vars, .slice xa n xc, .int .i64 R] 25)).cell? ((⟨w.heap.size, 0, none⟩ : Addr).add j) = some u :=
  World.news_of_block (MapKept.heap_alloc _ _).1
end Go.Proofs.Ythdofdglbdfkkaa
