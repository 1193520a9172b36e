/-
  Codes are laid into a forest; all others; a choice.
-/
import Derived.Test.YthdofdglbdfkkaaRows
import Derived.Test.YthdofdglbdfkkaaG0
import Derived.Test.YthdofdglbdfkkaaBdI
import Derived.Test.YthdofdglbdfkkaaFoR
import Derived.Test.YthdofdglbdfkkaaFoU
import Derived.WalkKit
import Derived.ProofKit
import Derived.OpenShut
import Derived.WalkSpells
import Derived.WalkLawsBesides
import Derived.Outline
import Derived.BigQuiet
import Derived.Handy
import Derived.LoopTactic
import Derived.Deep.Light
import Derived.Deep.RegionWith
import Derived.Deep.RegionHeld3
import Derived.Deep.DeepCutAuto
import Derived.Lib.Hide
import Derived.Maps.OwnRows
import Derived.Deep.Onto
import Derived.OneCell
import Derived.StillTailTactics
import Derived.Deep.AppendLies
import Derived.Deep.RegionLaw
namespace Go.Proofs.Ythdofdglbdfkkaa
open Go.ChangeShapes Go.WideShapes Go.ChangeAt Go.RowKit Go.Maps Go.ChangeMaps
set_option linter.unusedVariables false
set_option maxRecDepth 100000

open Classical in
noncomputable def codesF (vars i : Int) (codes : List Int) (c : Int) : Bool := decide (codesT vars i codes c)
open Classical in
theorem codesF_nil (vars i c : Int) : codesF vars i [] c = false := by
  unfold codesF
  exact decide_eq_false (show ¬ codesT vars i [] c by rintro ⟨x, hx, -⟩; simp at hx)
open Classical in
theorem codesF_end {vars i : Int} {codes : List Int} (hi : vars ≤ i) (hc : codes ≠ []) (c : Int) : codesF vars i codes c = true := by
  unfold codesF
  obtain ⟨x, xs, rfl⟩ := List.exists_cons_of_ne_nil hc
  exact decide_eq_true (show codesT vars i (x :: xs) c from ⟨x, List.mem_cons_self .., fun v h1 h2 => by omega⟩)
def bit1 (i x : Int) : Bool := decide (bitN x i = 1)
open Classical in
theorem codesF_step {vars i : Int} {codes : List Int} (hi : i < vars) (c : Int) : codesF vars i codes c = if bitN c i = 1 then codesF vars (i + 1) (codes.filter (fun x => bit1 i x)) c else codesF vars (i + 1) (codes.filter (fun x => !bit1 i x)) c := by
  have h01 : ∀ x : Int, bitN x i = 0 ∨ bitN x i = 1 := fun x => by unfold bitN; omega
  have key : ∀ (b : Bool), (∀ x, bit1 i x = b ↔ bitN x i = bitN c i) → (codesT vars i codes c ↔ codesT vars (i + 1) (codes.filter (fun x => bit1 i x == b)) c) := fun b hb => by
    unfold codesT
    constructor
    · rintro ⟨x, hx, hv⟩
      exact ⟨x, List.mem_filter.2 ⟨hx, by have := (hb x).2 (hv i (Int.le_refl _) hi); simp [this]⟩, fun v h1 h2 => hv v (by omega) h2⟩
    · rintro ⟨x, hx, hv⟩
      obtain ⟨h1, h2⟩ := List.mem_filter.1 hx
      refine ⟨x, h1, fun v h3 h4 => ?_⟩
      by_cases e : v = i
      · subst e; exact (hb x).1 (by simpa using h2)
      · exact hv v (by omega) h4
  unfold codesF
  by_cases hc : bitN c i = 1
  · rw [if_pos hc]
    have := key true (fun x => by unfold bit1; rw [hc]; simp)
    have e : (codes.filter (fun x => bit1 i x == true)) = codes.filter (fun x => bit1 i x) := by congr 1; funext x; cases bit1 i x <;> rfl
    rw [e] at this
    exact decide_eq_decide.2 this
  · rw [if_neg hc]
    have hc0 : bitN c i = 0 := by rcases h01 c with h | h; exact h; exact absurd h hc
    have := key false (fun x => by
      unfold bit1
      rw [hc0]
      rcases h01 x with h | h <;> simp [h])
    have e : (codes.filter (fun x => bit1 i x == false)) = codes.filter (fun x => !bit1 i x) := by congr 1; funext x; cases bit1 i x <;> rfl
    rw [e] at this
    exact decide_eq_decide.2 this
/-- A row of one's own that grows: what else lies is as it was. -/
theorem row_app {base : Nat} {pv pv' : Value} {L : List Int} {p : Int} {w2 w4 : World} {o : Obj} (hb : base ≤ w2.heap.size) (ho : w2.ownsInts base 3 .i64 pv L)
    (hg : (w2.alloc o).grownBy w4 pv.ownBlock) (hown : w4.ownsRow base 3 1 pv' (L.length + 1) (L.map (Value.int .i64) ++ [.int .i64 p])) (hloc : pv'.ownBlock = pv.ownBlock ∨ pv'.ownBlock = some (w2.alloc o).heap.size) (hp : fits p) :
    Below base w2 w4 ∧ w4.ownsInts base 3 .i64 pv' (L ++ [p]) ∧ (∀ (qv : Value) (M : List Int), w2.ownsInts base 3 .i64 qv M → (∀ g, pv.ownBlock = some g → qv.ownBlock ≠ some g) → w4.ownsInts base 3 .i64 qv M ∧ ∀ g, pv'.ownBlock = some g → qv.ownBlock ≠ some g) ∧ ∃ sa sc, pv' = .slice sa (L.length + 1) sc := by
  have hk : ∀ k, k < w2.heap.size → pv.ownBlock ≠ some k → w4.heap[k]? = w2.heap[k]? := fun k hk hn => (hg.block k (Nat.lt_trans hk (alloc_ltS _ _)) (fun e => hn e.symm)).trans (Below.heap_alloc _ _ _ hk)
  have hbs : ∀ k, pv.ownBlock = some k → base ≤ k := fun k hk => (ho.1.lt k hk).1
  refine ⟨⟨hg.os, hg.tape, hg.output, Nat.le_trans (Nat.le_of_lt (alloc_ltS w2 o)) hg.size, fun k h1 => hk k (by omega) (fun e => by have := hbs k e; omega)⟩, ⟨?_, ?_⟩, fun qv M hq hne => ⟨own_block hq (fun g _ hl hg' => hk g hl (fun e => hne g e hg')), fun g hg' e => ?_⟩, ?_⟩
  · rw [List.length_append, List.map_append]
    exact hown
  · intro z hz
    rw [List.mem_append] at hz
    rcases hz with hz | hz
    · exact ho.2 z hz
    · simp at hz; subst hz; exact hp
  · rcases hloc with h1 | h1
    · exact hne g (by rw [← h1, hg']) e
    · rw [hg'] at h1
      injection h1 with h1
      have h2 := (hq.1.lt g e).2
      have h3 := alloc_ltS w2 o
      omega
  · obtain ⟨-, h1⟩ := hown
    rcases h1 with ⟨-, h2⟩ | ⟨g, cap, cur, h2, -⟩
    · omega
    · exact ⟨_, cap, h2⟩

end Go.Proofs.Ythdofdglbdfkkaa
