/-
  Parts: NodeE, NodeC.
-/
import Derived.Test.YtbkcecilbpngcaaGreatRows
import Derived.Test.YtbkcecilbpngcaaGreatPaA
import Derived.Test.YtbkcecilbpngcaaGreatNodeL
import Derived.WalkKit
import Derived.ProofKit
import Derived.OpenShut
import Derived.WalkSpells
import Derived.WalkLawsBesides
import Derived.Outline
import Derived.BigQuiet
import Derived.Handy
import Derived.RegionTactic
import Derived.Deep.RegionWith
import Derived.Test.YtbkcecilbpngcaaGreatG0
import Derived.LoopTactic
import Derived.Deep.Light
import Derived.Deep.MidRow
import Derived.OwnWalk
import Derived.Laws.OwnMore
import Derived.Lib.Hide
/-! Two slices of the same nodes are alike. -/
namespace Go.Proofs.YtbkcecilbpngcaaGreat
open Go.ChangeShapes Go.WideShapes Go.ChangeAt Go.RowKit
set_option linter.unusedVariables false

theorem below_undrawn {B : Nat} {w w' : World} (hs : B ≤ w.heap.size) (h : Below w.drew.heap.size w.drew w') : Below B w w' :=
  ⟨h.os, h.tape, h.output, h.size, fun k hk => h.block k (Nat.lt_of_lt_of_le hk hs)⟩
theorem c_eqNodeS {B : Nat} {a a' : Option Addr} {len cap cap' : Nat} {ns : List ND} (w : World) (hB : B ≤ w.heap.size) (h : NodesAt B w a len cap ns) (h' : NodesAt B w a' len cap' ns) :
    Calls Tryz.prog 39 #[.slice a len cap, .slice a' len cap'] w fun e w' => e = .returned (.bool true) ∧ Below B w w' := by
  have hm : len ≤ maxLen := Nat.le_trans h.2.1 h.2.2.1
  unfold maxLen at hm
  have HN : Hid (NodesAt B w a len cap ns) := h
  have HN' : Hid (NodesAt B w a' len cap' ns) := h'
  have hlen : ns.length = len := h.1
  clear h h'
  go_enter Tryz.func39, Tryz.ntmps39
  go_wp2
  go_loopw [5] (fun i wr => ∃ k : Nat, k ≤ len ∧ i = .int .i64 k ∧ Below B w wr) (fun i _ => len - (intOf i).toNat)
  case atStart => exact ⟨0, by omega, rfl, Below.refl _ _⟩
  case round =>
    obtain ⟨k, hk, rfl, hBk⟩ := hrel
    by_cases hlt : k < len
    · have hki : (k : Int) < len := by omega
      have hsz : B ≤ wr.heap.size := Nat.le_trans hB hBk.size
      obtain ⟨-, -, -, hok, -, hcells⟩ := (HN.out.below hBk)
      obtain ⟨-, -, -, -, -, hcells'⟩ := (HN'.out.below hBk)
      rcases hcells with h0 | ⟨b, off, rfl, hbB, hc⟩
      · omega
      · rcases hcells' with h0 | ⟨b', off', rfl, hbB', hc'⟩
        · omega
        · have g := hc k (by omega)
          have g' := hc' k (by omega)
          generalize ns[k]'(by omega) = nd at g g'
          obtain ⟨c0, c1, c2, c3, c4, c5, c6, c7, c8⟩ := node_cells g
          obtain ⟨e0, e1, e2, e3, e4, e5, e6, e7, e8⟩ := node_cells g'
          have HB : Hid (Below B w wr) := hBk
          clear hc hc' hok g g' hBk
          go_wp2_with fail
          go_region_with (first | (go_at_call 73; refine (c_eqNode nd _).mono ?_; rintro e w1 ⟨rfl, hB1⟩))
          all_goals
            have hB2 : Hid (Below B w w1) := HB.out.trans (below_undrawn hsz hB1)
            clear c0 c1 c2 c3 c4 c5 c6 c7 c8 e0 e1 e2 e3 e4 e5 e6 e7 e8 hB1
            go_wp2
            go_roundw
            case rel => exact ⟨k + 1, by omega, by go_num, hB2.out⟩
            case measure => simp [intOf]; omega
    · have hki : ¬ (k : Int) < len := by omega
      go_wp2
      go_ret
      exact ⟨rfl, hBk⟩
end Go.Proofs.YtbkcecilbpngcaaGreat

namespace Go.Proofs.YtbkcecilbpngcaaGreat
open Go.ChangeShapes Go.WideShapes Go.ChangeAt Go.RowKit
set_option linter.unusedVariables false

theorem nodeInfo : (Tryz.prog.info? 66).map (fun i => (i.zero, i.size, i.bytes)) = some (some (.agg #[.int .i64 0, .int .i64 0, .int .i64 0, .int .i64 0, .int .i64 0, .int .i64 0, .int .i64 0, .int .i64 0, .string ByteArray.empty]), 9, 80) := by kernel_rfl
theorem nodeSize : (Tryz.prog.info? 66).map (·.size) = some 9 := by kernel_rfl
theorem nd_one (x : ND) : (x.cells.toArray.all (·.oneCell')) = true := by simp [ND.cells, Value.oneCell']
theorem nd_store (x : ND) {w : World} {b len j : Nat} (h : w.there b 0 (len * 9)) (hj : j < len) : (storeCells ⟨b, j * 9, none⟩ x.cells).run Tryz.prog w = .ok () (w.setCells b (j * 9) x.cells) := by
  have := run_storeCells_cells (P := Tryz.prog) b (j * 9) x.cells 0 w (fun q hq => by have hq' : q < 9 := hq; have := (h (j * 9 + q) (by omega)).1; simpa using this) (fun q hq => by have hq' : q < 9 := hq; have := (h (j * 9 + q) (by omega)).2; simpa using this)
    (fun v hv => by have := nd_one x; rw [Array.all_eq_true_iff_forall_mem] at this; exact this v (by simpa using hv))
  simpa using this
/-- The first j nodes are copied into the block that lies at the end of w. -/
def Copied (ns : List ND) (len : Nat) (w : World) (i : Value) (wr : World) : Prop :=
  ∃ j : Nat, j ≤ len ∧ i = .int .i64 j ∧ w.heap.size < wr.heap.size ∧ wr.there w.heap.size 0 (len * 9) ∧
    (∀ t (h : t < ns.length), t < j → ∀ c, c < 9 → wr.cell? ⟨w.heap.size, t * 9 + c, none⟩ = (ns[t]).cells[c]?) ∧ Below w.heap.size w wr
theorem copied_next {ns : List ND} {len j : Nat} {w w1 : World} {nd : ND} (hjl : j < len) (hjn : j < ns.length) (hl1 : w.heap.size < w1.heap.size) (hT : w1.there w.heap.size 0 (len * 9))
    (hC : ∀ t (h : t < ns.length), t < j → ∀ c, c < 9 → w1.cell? ⟨w.heap.size, t * 9 + c, none⟩ = (ns[t]).cells[c]?) (hB : Below w.heap.size w w1) (hnd : nd = ns[j]) :
    Copied ns len w (.int .i64 ((j : Int) + 1)) (w1.setCells w.heap.size (j * 9) nd.cells) := by
  refine ⟨j + 1, by omega, by go_num, by rw [size_setCells]; exact hl1, World.there_setCells hT _ _ _, ?_, below_setCells hB (Nat.le_refl _) _ _ hB⟩
  intro t ht htj c hc
  by_cases e : t = j
  · subst e
    have hs := World.cell?_setCells_in w.heap.size nd.cells (t * 9) w1 (fun q hq => by have := hT (t * 9 + q) (by have : q < 9 := hq; omega); simpa using this.1) c hc
    rw [hs, ← hnd]
    exact (List.getElem?_eq_getElem (by exact hc)).symm
  · have hs := World.cell?_setCells_out w.heap.size nd.cells (j * 9) w1 ⟨w.heap.size, t * 9 + c, none⟩ (fun _ _ => .inl (by show t * 9 + c < j * 9; omega))
    exact hs.trans (hC t ht (by omega) c hc)

set_option maxHeartbeats 4000000 in
theorem c_toNodeSt {B : Nat} {a : Option Addr} {len cap : Nat} {ns : List ND} (w : World) (hBw : B ≤ w.heap.size) (h : NodesAt B w a len cap ns) (hlen : len ≤ 1048576) :
    Calls Tryz.prog 28 #[.slice a len cap] w fun e w' => e = .returned (.slice (some ⟨w.heap.size, 0, none⟩) len len) ∧ NodesAt w'.heap.size w' (some ⟨w.heap.size, 0, none⟩) len len ns ∧ Room w' w.heap.size (len * 9) ∧ Below w.heap.size w w' := by
  have HN := Go.Lib.hid h
  have hnl : ns.length = len := h.1
  have HNL := Go.Lib.hid hnl
  clear h hnl
  obtain ⟨i0, hi0, hz0, hz1, hz2⟩ := info_parts nodeInfo
  obtain ⟨w0, hrun, hown, hgrow⟩ := run_make_full (P := Tryz.prog) w w.heap.size 29 66 i0 _ 9 Tryz.underlying29 hi0 hz0 hz1 .i64 .i64 len (by rw [hz2]; omega) (by unfold maxLen; omega) (Nat.le_refl _)
  have hlt0 : w.heap.size < w0.heap.size := by
    rcases hown.2 with ⟨h', _⟩ | ⟨g', cap', cur, h', _, hg, _⟩
    · simp at h'
    · simp only [Value.slice.injEq, Option.some.injEq, Addr.mk.injEq, and_true, true_and] at h'
      obtain ⟨rfl, rfl⟩ := h'
      rcases Nat.lt_or_ge w.heap.size w0.heap.size with h | h
      · exact h
      · rw [Array.getElem?_eq_none h] at hg; cases hg
  have HT0 := Go.Lib.hid (show w0.there w.heap.size 0 (len * 9) from fun j hj => ⟨by
      rw [Nat.zero_add, hown.cellAt j (by omega)]
      have hl := hown.1
      rw [List.getElem?_eq_getElem (by omega)]; rfl, by rw [Nat.zero_add]; exact hown.frozenAt j⟩)
  have HB0 := Go.Lib.hid ((Below.refl w.heap.size w).grown hgrow (Nat.le_refl _) (by simp))
  clear hi0 hz0 hz1 hz2 hown hgrow
  go_enter Tryz.func28, Tryz.ntmps28
  go_wp2
  clear hrun
  go_loopw [4] (fun i wr => Copied ns len w i wr) (fun i _ => len - (intOf i).toNat)
  case atStart => exact ⟨0, by omega, rfl, hlt0, HT0.out, fun t _ h => by omega, HB0.out⟩
  case round =>
    obtain ⟨j, hj, rfl, hlt, hth, hcp, hBr⟩ := hrel
    have HTH := Go.Lib.hid hth
    have HCP := Go.Lib.hid hcp
    have HBr := Go.Lib.hid hBr
    clear hth hcp hBr HT0 HB0 hlt0
    by_cases hjl : j < len
    · have hki : (j : Int) < len := by omega
      obtain ⟨-, -, -, hok, -, hcells⟩ := (HN.out.below (HBr.out.mono hBw))
      rcases hcells with h0 | ⟨b, off, rfl, hbB, hc⟩
      · omega
      · have hjn : j < ns.length := by have := HNL.out; omega
        have hc' := hc j hjn
        obtain ⟨nd, hnd⟩ : ∃ nd, nd = ns[j] := ⟨_, rfl⟩
        rw [← hnd] at hc'
        obtain ⟨c0, c1, c2, c3, c4, c5, c6, c7, c8⟩ := node_cells hc'
        have HND := Go.Lib.hid hnd
        clear hc hc' hok hnd
        go_wp2_with fail
        refine (c_toNode nd _).mono ?_
        rintro e w1 ⟨rfl, hB1⟩
        have HT1 := Go.Lib.hid (there_below HTH.out hB1 hlt)
        have HB1 := Go.Lib.hid (HBr.out.trans (hB1.mono HBr.out.size))
        have hl1 : w.heap.size < w1.heap.size := Nat.lt_of_lt_of_le hlt hB1.size
        have HC1 := Go.Lib.hid (show ∀ t (h : t < ns.length), t < j → ∀ c, c < 9 → w1.cell? ⟨w.heap.size, t * 9 + c, none⟩ = (ns[t]).cells[c]? from fun t h htj c hc => (hB1.cell (p := ⟨w.heap.size, t * 9 + c, none⟩) hlt).trans (HCP.out t h htj c hc))
        clear hB1 c0 c1 c2 c3 c4 c5 c6 c7 c8
        have hst := nd_store nd HT1.out hjl
        go_wp2
        go_roundw
        case rel => exact copied_next hjl hjn hl1 HT1.out HC1.out HB1.out HND.out
        case measure => simp [intOf]; omega
    · have hki : ¬ (j : Int) < len := by omega
      obtain rfl : j = len := by omega
      go_wp2
      go_ret
      obtain ⟨h1, -, -, h4, -, -⟩ := HN.out
      exact ⟨rfl, ⟨h1, Nat.le_refl _, by unfold maxLen; omega, h4, fun e => by simp at e, .inr ⟨w.heap.size, 0, rfl, hlt, fun i hi q hq => by rw [Nat.zero_add]; exact HCP.out i hi (by omega) q hq⟩⟩, ⟨hlt, HTH.out⟩, HBr.out⟩
theorem c_toNodeS {B : Nat} {a : Option Addr} {len cap : Nat} {ns : List ND} (w : World) (hBw : B ≤ w.heap.size) (h : NodesAt B w a len cap ns) (hlen : len ≤ 1048576) :
    Calls Tryz.prog 28 #[.slice a len cap] w fun e w' => e = .returned (.slice (some ⟨w.heap.size, 0, none⟩) len len) ∧ NodesAt w'.heap.size w' (some ⟨w.heap.size, 0, none⟩) len len ns ∧ Below w.heap.size w w' := by
  refine (c_toNodeSt w hBw h hlen).mono ?_
  rintro e w' ⟨h1, h2, -, h3⟩
  exact ⟨h1, h2, h3⟩
end Go.Proofs.YtbkcecilbpngcaaGreat
