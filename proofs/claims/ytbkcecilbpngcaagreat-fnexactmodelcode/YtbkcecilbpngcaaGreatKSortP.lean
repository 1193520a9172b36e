/-
  The sort that a kind makes of the sorts of its parts: the program.
-/
import Derived.Test.YtbkcecilbpngcaaGreatRows
import Derived.Test.YtbkcecilbpngcaaGreatPaA
import Derived.Test.YtbkcecilbpngcaaGreatNodeM
import Derived.Test.YtbkcecilbpngcaaGreatNames
import Derived.Test.YtbkcecilbpngcaaGreatFieldsS
import Derived.Test.YtbkcecilbpngcaaGreatNodeL
import Derived.Test.YtbkcecilbpngcaaGreatTwo
import Derived.Test.YtbkcecilbpngcaaGreatResP
import Derived.Test.YtbkcecilbpngcaaGreatNSortI
import Derived.Test.YtbkcecilbpngcaaGreatWidthI
import Derived.WalkKit
import Derived.ProofKit
import Derived.OpenShut
import Derived.WalkSpells
import Derived.WalkLawsBesides
import Derived.Outline
import Derived.BigQuiet
import Derived.Handy
import Derived.LoopTactic
import Derived.Deep.Light
import Derived.Deep.RegionWith
import Derived.Deep.RegionHeld3
import Derived.Lib.Hide
import Derived.Deep.DeepCutAuto
namespace Go.Proofs.YtbkcecilbpngcaaGreat
open Go.ChangeShapes Go.WideShapes Go.ChangeAt Go.RowKit
set_option linter.unusedVariables false

theorem cell3_0 (W : World) (cs : Array Value) (t : TypeId) (B C : Obj) (i : Nat) : (((W.alloc (.cells cs t)).alloc B).alloc C).cell? ⟨W.heap.size, i, none⟩ = cs[i]? :=
  (Below.cell (w := W.alloc (.cells cs t)) (B := (W.alloc (.cells cs t)).heap.size) (by go_grown) (p := ⟨W.heap.size, i, none⟩) (alloc_ltS _ _)).trans (World.cell?_alloc_new _ _ _ _)
theorem cell3_1 (W : World) (A : Obj) (cs : Array Value) (t : TypeId) (C : Obj) (i : Nat) : (((W.alloc A).alloc (.cells cs t)).alloc C).cell? ⟨W.heap.size + 1, i, none⟩ = cs[i]? :=
  cell_of_row _ _ i cs t (0, 0) (heap_alloc2_at W A _ C)
theorem cell3_2 (W : World) (A B : Obj) (cs : Array Value) (t : TypeId) (i : Nat) : (((W.alloc A).alloc B).alloc (.cells cs t)).cell? ⟨W.heap.size + 2, i, none⟩ = cs[i]? := by
  have e : ((W.alloc A).alloc B).heap.size = W.heap.size + 2 := by simp
  rw [← e]; exact World.cell?_alloc_new _ _ _ _
theorem size3 (W : World) (A B C : Obj) : (((W.alloc A).alloc B).alloc C).heap.size = W.heap.size + 3 := by simp
theorem frozen_of_new (w : World) (cs : Array Value) (t : TypeId) (i : Nat) : (w.alloc (.cells cs t)).frozen? ⟨w.heap.size, i, none⟩ = false := by
  have h := heap_alloc_new w (.cells cs t)
  simp only [World.frozen?]
  rw [h]
  simp
theorem cell3_0f (W : World) (A B : Obj) (cs : Array Value) (t : TypeId) (i : Nat) : (((W.alloc A).alloc B).alloc (.cells cs t)).frozen? ⟨W.heap.size + 2, i, none⟩ = false := by
  have e : ((W.alloc A).alloc B).heap.size = W.heap.size + 2 := by simp
  rw [← e]; exact frozen_of_new _ _ _ _
/-- All that lay there reads as before, but for one block. -/
structure Sav (r : Nat) (w w' : World) : Prop where
  size : w.heap.size ≤ w'.heap.size
  cell : ∀ b o, b < w.heap.size → b ≠ r → w'.cell? ⟨b, o, none⟩ = w.cell? ⟨b, o, none⟩
theorem Sav.refl (r : Nat) (w : World) : Sav r w w := ⟨Nat.le_refl _, fun _ _ _ _ => rfl⟩
theorem Sav.drew {r : Nat} {w w' : World} (h : Sav r w w') : Sav r w w'.drew := ⟨h.size, h.cell⟩
theorem Sav.alloc {r : Nat} {w w' : World} (h : Sav r w w') (o : Obj) : Sav r w (w'.alloc o) :=
  ⟨Nat.le_trans h.size (by simp), fun b i hb hr => (World.cell?_alloc_lt _ _ ⟨b, i, none⟩ (Nat.lt_of_lt_of_le hb h.size)).trans (h.cell b i hb hr)⟩
theorem Sav.below {r : Nat} {w w1 w2 : World} (h : Sav r w w1) (k : Below w1.heap.size w1 w2) : Sav r w w2 :=
  ⟨Nat.le_trans h.size k.size, fun b i hb hr => (k.cell (p := ⟨b, i, none⟩) (Nat.lt_of_lt_of_le hb h.size)).trans (h.cell b i hb hr)⟩
theorem Sav.set {r : Nat} {w w1 : World} (h : Sav r w w1) (o : Nat) (u : Value) : Sav r w (w1.setCell ⟨r, o, none⟩ u) :=
  ⟨by simpa using h.size, fun b i hb hr => (World.cell?_setCell_other _ _ ⟨b, i, none⟩ _ (fun e => hr (by cases e; rfl))).trans (h.cell b i hb hr)⟩
theorem savc {r : Nat} {w w' : World} {b o : Nat} {v : Value} (h : Sav r w w') (hb : b < w.heap.size) (hr : b ≠ r) (hc : w.cell? ⟨b, o, none⟩ = some v) : w'.cell? ⟨b, o, none⟩ = some v := (h.cell b o hb hr).trans hc
/-- Three blocks of the call's own hold the sorts of the parts. -/
def CutR (N : Nat) (W : World) (ai aw bi bw ci cw : Int) (s6 s7 s8 : Value) (wx : World) : Prop :=
  ∃ g6 g7 g8 : Nat, s6 = .pointer (some ⟨g6, 0, none⟩) ∧ s7 = .pointer (some ⟨g7, 0, none⟩) ∧ s8 = .pointer (some ⟨g8, 0, none⟩) ∧ (N ≤ g6 ∧ g6 < wx.heap.size) ∧ (N ≤ g7 ∧ g7 < wx.heap.size) ∧ (N ≤ g8 ∧ g8 < wx.heap.size) ∧
    wx.cell? ⟨g6, 0, none⟩ = some (.int .i64 ai) ∧ wx.cell? ⟨g6, 1, none⟩ = some (.int .i64 aw) ∧ wx.cell? ⟨g7, 0, none⟩ = some (.int .i64 bi) ∧ wx.cell? ⟨g7, 1, none⟩ = some (.int .i64 bw) ∧ wx.cell? ⟨g8, 0, none⟩ = some (.int .i64 ci) ∧ wx.cell? ⟨g8, 1, none⟩ = some (.int .i64 cw) ∧ Below N W wx
end Go.Proofs.YtbkcecilbpngcaaGreat
