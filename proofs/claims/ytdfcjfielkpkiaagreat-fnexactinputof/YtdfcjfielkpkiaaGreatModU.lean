/-
  The places of a kind.
-/
import Derived.Test.YtdfcjfielkpkiaaGreatRows
import Derived.Test.YtdfcjfielkpkiaaGreatPaA
import Derived.Test.YtdfcjfielkpkiaaGreatNodeL
import Derived.Test.YtdfcjfielkpkiaaGreatPaG
import Derived.Test.YtdfcjfielkpkiaaGreatResP
import Derived.Test.YtdfcjfielkpkiaaGreatModD
import Derived.Test.YtdfcjfielkpkiaaGreatModA
import Derived.Test.YtdfcjfielkpkiaaGreatModB
import Derived.Test.YtdfcjfielkpkiaaGreatModE
import Derived.Test.YtdfcjfielkpkiaaGreatPaF
import Derived.WalkKit
import Derived.ProofKit
import Derived.OpenShut
import Derived.WalkSpells
import Derived.WalkLawsBesides
import Derived.Outline
import Derived.BigQuiet
import Derived.Handy
import Derived.LoopTactic
import Derived.Deep.Light
import Derived.Deep.RegionWith
import Derived.Deep.RegionHeld3
import Derived.Deep.DeepCutAuto
import Derived.Lib.Hide
import Derived.Maps.AppendAt
import Derived.Maps.OwnRows
import Derived.OwnWalk
import Derived.Deep.Onto
namespace Go.Proofs.YtdfcjfielkpkiaaGreat
open Go.ChangeShapes Go.WideShapes Go.ChangeAt Go.RowKit Go.Maps
set_option linter.unusedVariables false
set_option maxRecDepth 100000


/-- The places of the nodes of a kind among the first k. -/
def plcs (kind : Int) (ns : List ND) : Nat → List Int
  | 0 => []
  | k + 1 => if (ns.getD k default).kind = kind then plcs kind ns k ++ [(k : Int)] else plcs kind ns k
theorem plcs_len (kind : Int) (ns : List ND) (k : Nat) : (plcs kind ns k).length ≤ k := by
  induction k with
  | zero => simp [plcs]
  | succ k ih => unfold plcs; split <;> (try simp only [List.length_append, List.length_cons, List.length_nil]) <;> omega
theorem own_block {w w' : World} {base : Nat} {v : Value} {zs : List Int} (h : w.ownsInts base 3 .i64 v zs) (hb : ∀ g, base ≤ g → g < w.heap.size → v.ownBlock = some g → w'.heap[g]? = w.heap[g]?) : w'.ownsInts base 3 .i64 v zs := by
  have hl := h.1.lt
  obtain ⟨⟨h1, h2⟩, h3⟩ := h
  refine ⟨⟨h1, ?_⟩, h3⟩
  rcases h2 with h2 | ⟨g, cap, cur, rfl, hbs, hg, h4⟩
  · exact .inl h2
  · exact .inr ⟨g, cap, cur, rfl, hbs, (hb g hbs (hl g rfl).2 rfl).trans hg, h4⟩
theorem ownI_below {w w' : World} {base : Nat} {v : Value} {zs : List Int} (h : w.ownsInts base 3 .i64 v zs) (hb : Below w.heap.size w w') : w'.ownsInts base 3 .i64 v zs := own_block h (fun g _ hl _ => hb.block g hl)
theorem kind_at {B : Nat} {w : World} {a : Option Addr} {len cap k : Nat} {ns : List ND} (h : NodesAt B w a len cap ns) (hk : k < len) :
    ∃ (nd : ND) (b off : Nat), ns.getD k default = nd ∧ a = some ⟨b, off, none⟩ ∧ b < B ∧ ∀ j, j < 9 → w.cell? ⟨b, off + k * 9 + j, none⟩ = nd.cells[j]? := by
  obtain ⟨nd, hk', b, off, hnd, hok, ha, hbB, hc⟩ := node_at h hk
  exact ⟨nd, b, off, by simp [List.getD, hk', hnd], ha, hbB, hc⟩
/-- What is handed back: the places, in a row of one's own. -/
def PlcP (kind : Int) (ns : List ND) (w : World) (e : Ending) (w' : World) : Prop := ∃ v, e = .returned v ∧ w'.ownsInts w.heap.size 3 .i64 v (plcs kind ns ns.length) ∧ Below w.heap.size w w'
theorem own_grow {w wb w1 : World} {o : Obj} {v : Value} {zs : List Int} (hB : Below w.heap.size w wb) (ho : wb.ownsInts w.heap.size 3 .i64 v zs) (hg : (wb.alloc o).grownBy w1 v.ownBlock) : Below w.heap.size w w1 :=
  (hB.alloc hB.size o).grown hg (Nat.le_trans hB.size (Nat.le_of_lt (alloc_ltS _ _))) (fun j hj => (ho.1.lt j hj).1)

set_option maxHeartbeats 4000000 in
theorem c_kindPlaces {B : Nat} {a : Option Addr} {len cap : Nat} {ns : List ND} (kind : Int) (w : World) (hBw : B ≤ w.heap.size) (h : NodesAt B w a len cap ns) (h60 : len ≤ 60) :
    Calls Tryz.prog 119 #[.slice a len cap, .int .i64 kind] w (PlcP kind ns w) := by
  have HN := Go.Lib.hid h
  have hlen : ns.length = len := h.1
  clear h
  obtain ⟨i0, hi, hz0, hz1, hz2⟩ := info_parts intInfo
  go_enter Tryz.func119, Tryz.ntmps119
  go_wp2_with fail
  go_loopw [5, 10] (fun s i wr => ∃ k : Nat, k ≤ len ∧ i = .int .i64 k ∧ wr.ownsInts w.heap.size 3 .i64 s (plcs kind ns k) ∧ Below w.heap.size w wr) (fun _ i _ => len - (intOf i).toNat)
  case atStart => exact ⟨0, by omega, rfl, World.ownsInts_nil _ _ _ _, Below.refl _ _⟩
  case round =>
    obtain ⟨k, hk, rfl, hown, hBk0⟩ := hrel
    have HB := Go.Lib.hid hBk0
    have hBk := hBk0
    clear hBk0
    have HO0 := Go.Lib.hid hown
    have hpl := plcs_len kind ns k
    clear hown
    by_cases hkl : k < len
    · have hki : (k : Int) < len := by omega
      obtain ⟨nd, b, off, hnd, rfl, hbB, hc⟩ := kind_at ((HN.out.rows.below (hBk.mono hBw)).nodes) hkl
      obtain ⟨c0, c1, c2, c3, c4, c5, c6, c7, c8⟩ := node_cells hc
      have HP := Go.Lib.hid (show plcs kind ns (k + 1) = if nd.kind = kind then plcs kind ns k ++ [(k : Int)] else plcs kind ns k by rw [plcs, hnd])
      clear hc hnd
      obtain ⟨k0, pa, pb, pc, n, m, si, sw, nm⟩ := nd
      simp only at c0 c1 c2 c3 c4 c5 c6 c7 c8 HP
      go_upto_region 5 with fail
      refine code_gen (R := fun wb => wb.cell? ⟨wr.heap.size, 0, none⟩ = some (.int .i64 k0) ∧ Below wr.heap.size wr wb) ⟨by simp, by go_grown⟩ ?_
      rintro wb ⟨z0, hBb⟩
      have HO := Go.Lib.hid (ownI_below HO0.out hBb)
      have HBB := Go.Lib.hid (HB.out.trans (hBb.mono HB.out.size))
      have hsz := HBB.out.size
      clear hBb c0 c1 c2 c3 c4 c5 c6 c7 c8 HO0 hBk
      by_cases hkk : k0 = kind
      · rw [if_pos hkk] at HP
        go_wp2_with (first | (at_builtin; refine wpList_append_own_at _ rfl _ _ 24 rfl w.heap.size 3 i0 (.int .i64 0) 1 8 Tryz.underlying24 hi hz0 hz1 hz2 rfl (by decide) _ _ _ rfl (HO.out.1.alloc _) ⟨wb.heap.size, 0, none⟩ 1 1 [.int .i64 (k : Int)] rfl rfl (cell_one_new _ _ _) (ints_oneCell .i64 [(k : Int)]) (by unfold maxLen; omega) (by omega) (by simp; omega) ?_; intro v' w1 hown' hgrow hnil hloc) | go_in)
        have HA := Go.Lib.hid (HO.out.appended hown' (WalkArith.wf_i64 (by omega)))
        go_roundw
        case rel => exact ⟨k + 1, by omega, by go_num, by rw [HP.out]; exact HA.out, own_grow HBB.out HO.out hgrow⟩
        case measure => simp [intOf] <;> omega
      · rw [if_neg hkk] at HP
        go_wp2_with fail
        go_roundw
        case rel => exact ⟨k + 1, by omega, by go_num, by rw [HP.out]; exact HO.out, HBB.out⟩
        case measure => simp [intOf] <;> omega
    · have hki : ¬ (k : Int) < len := by omega
      obtain rfl : k = len := by omega
      go_wp2_with fail
      go_ret
      exact ⟨_, rfl, by rw [hlen]; exact HO0.out, HB.out⟩

theorem Boxed.grow {s0 s1 s2 s3 s4 : SL} {w wb w1 : World} {ob : Obj} {v : Value} {zs : List Int} (h : Boxed s0 s1 s2 s3 s4 w wb) (ho : wb.ownsInts (w.heap.size + 1) 3 .i64 v zs) (hg : (wb.alloc ob).grownBy w1 v.ownBlock) : Boxed s0 s1 s2 s3 s4 w w1 := by
  obtain ⟨h1, c0, c1, c2, c3, c4, hB⟩ := h
  have hlt : w.heap.size < (wb.alloc ob).heap.size := Nat.lt_trans h1 (alloc_ltS _ _)
  have hk : w1.heap[w.heap.size]? = wb.heap[w.heap.size]? := (hg.block _ hlt (fun e => by have := (ho.1.lt _ e.symm).1; omega)).trans (Below.heap_alloc _ _ _ h1)
  have hc : ∀ i, w1.cell? ⟨w.heap.size, i, none⟩ = wb.cell? ⟨w.heap.size, i, none⟩ := fun i => World.cell?_of_block hk
  exact ⟨Nat.lt_of_lt_of_le hlt hg.size, (hc 0).trans c0, (hc 1).trans c1, (hc 2).trans c2, (hc 3).trans c3, (hc 4).trans c4, (hB.alloc hB.size ob).grown hg (Nat.le_of_lt hlt) (fun j hj => Nat.le_of_succ_le (ho.1.lt j hj).1)⟩

set_option maxHeartbeats 4000000 in
theorem c_l2Places {B : Nat} {s0 s1 s2 s3 s4 : SL} {M : MD} (kind : Int) (w : World) (hBw : B ≤ w.heap.size) (h : ModelAt B w s0 s1 s2 s3 s4 M) (h60 : s0.len ≤ 60) :
    Calls Tryz.prog 73 #[.agg (mcells s0 s1 s2 s3 s4).toArray, .int .i64 kind] w (PlcP kind M.ns w) := by
  have HN := Go.Lib.hid h.ns
  have hlen : M.ns.length = s0.len := h.ns.1
  clear h
  obtain ⟨a, len, cap⟩ := s0
  simp only [mcells] at *
  obtain ⟨i0, hi, hz0, hz1, hz2⟩ := info_parts intInfo
  go_enter Tryz.func73, Tryz.ntmps73
  go_wp2_with fail
  go_loopw [5, 6] (fun s i wr => ∃ k : Nat, k ≤ len ∧ i = .int .i64 k ∧ wr.ownsInts (w.heap.size + 1) 3 .i64 s (plcs kind M.ns k) ∧ Boxed ⟨a, len, cap⟩ s1 s2 s3 s4 w wr) (fun _ i _ => len - (intOf i).toNat)
  case atStart => exact ⟨0, by omega, rfl, World.ownsInts_nil _ _ _ _, Boxed.new _ _ _ _ _ _ _⟩
  case round =>
    obtain ⟨k, hk, rfl, hown, hBk0⟩ := hrel
    have HXR := Go.Lib.hid hBk0
    obtain ⟨hlt, b0, -, -, -, -, hBk⟩ := hBk0
    have HO0 := Go.Lib.hid hown
    have hpl := plcs_len kind M.ns k
    clear hown
    by_cases hkl : k < len
    · have hki : (k : Int) < len := by omega
      obtain ⟨nd, b, off, hnd, rfl, hbB, hc⟩ := kind_at ((HN.out.rows.below (hBk.mono hBw)).nodes) hkl
      obtain ⟨c0, c1, c2, c3, c4, c5, c6, c7, c8⟩ := node_cells hc
      have HP := Go.Lib.hid (show plcs kind M.ns (k + 1) = if nd.kind = kind then plcs kind M.ns k ++ [(k : Int)] else plcs kind M.ns k by rw [plcs, hnd])
      clear hc hnd
      obtain ⟨k0, pa, pb, pc, n, m, si, sw, nm⟩ := nd
      simp only at c0 c1 c2 c3 c4 c5 c6 c7 c8 HP
      refine code_gen (R := fun wb => wb = wr) rfl ?_
      rintro wb rfl
      have HO := HO0
      have HBB := Go.Lib.hid HXR.out.2.2.2.2.2.2
      have hsz := HBB.out.size
      clear HO0 hBk c1 c2 c3 c4 c5 c6 c7 c8
      by_cases hkk : k0 = kind
      · rw [if_pos hkk] at HP
        go_wp2_with (first | (at_builtin; refine wpList_append_own_at _ rfl _ _ 24 rfl (w.heap.size + 1) 3 i0 (.int .i64 0) 1 8 Tryz.underlying24 hi hz0 hz1 hz2 rfl (by decide) _ _ _ rfl (HO.out.1.alloc _) ⟨wb.heap.size, 0, none⟩ 1 1 [.int .i64 (k : Int)] rfl rfl (cell_one_new _ _ _) (ints_oneCell .i64 [(k : Int)]) (by unfold maxLen; omega) (by omega) (by simp; omega) ?_; intro v' w1 hown' hgrow hnil hloc) | go_in)
        have HA := Go.Lib.hid (HO.out.appended hown' (WalkArith.wf_i64 (by omega)))
        go_roundw
        case rel => exact ⟨k + 1, by omega, by go_num, by rw [HP.out]; exact HA.out, HXR.out.grow HO.out hgrow⟩
        case measure => simp [intOf] <;> omega
      · rw [if_neg hkk] at HP
        go_wp2_with fail
        go_roundw
        case rel => exact ⟨k + 1, by omega, by go_num, by rw [HP.out]; exact HO.out, HXR.out⟩
        case measure => simp [intOf] <;> omega
    · have hki : ¬ (k : Int) < len := by omega
      obtain rfl : k = len := by omega
      go_wp2_with fail
      go_ret
      exact ⟨_, rfl, by rw [hlen]; exact ⟨HO0.out.1.mono (Nat.le_succ _), HO0.out.2⟩, HXR.out.2.2.2.2.2.2⟩
end Go.Proofs.YtdfcjfielkpkiaaGreat
