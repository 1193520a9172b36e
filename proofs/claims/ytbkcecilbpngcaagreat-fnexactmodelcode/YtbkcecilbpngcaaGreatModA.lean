/-
  The bits of all nodes of a kind: the model.
-/
import Derived.Test.YtbkcecilbpngcaaGreatRows
import Derived.Test.YtbkcecilbpngcaaGreatPaA
import Derived.Test.YtbkcecilbpngcaaGreatNodeL
import Derived.Test.YtbkcecilbpngcaaGreatModD
import Derived.WalkKit
import Derived.ProofKit
import Derived.OpenShut
import Derived.WalkSpells
import Derived.WalkLawsBesides
import Derived.Outline
import Derived.BigQuiet
import Derived.Handy
import Derived.LoopTactic
import Derived.Deep.Light
import Derived.Deep.RegionWith
import Derived.Lib.Hide
namespace Go.Proofs.YtbkcecilbpngcaaGreat
open Go.ChangeShapes Go.WideShapes Go.ChangeAt Go.RowKit
set_option linter.unusedVariables false
set_option maxRecDepth 100000

/-- What a node of a kind brings. -/
def kb (kind : Int) (x : ND) : Int := if x.kind = kind then bitsN x.si x.sw else 0
/-- The bits of all nodes of a kind. -/
def allBits (kind : Int) : List ND → Int
  | [] => 0
  | x :: l => kb kind x + allBits kind l
theorem bitsN_range (i n : Int) : 0 ≤ bitsN i n ∧ bitsN i n ≤ 64 := by
  unfold bitsN cellsN
  by_cases h : SOK i n
  · rw [if_pos h]
    obtain ⟨h0, h1, h2, h3⟩ := h
    have hi : i = 0 ∨ i = 1 ∨ i = 2 := by omega
    rcases hi with rfl | rfl | rfl
    · have : ((2 : Int) ^ (0 : Int).toNat) = 1 := by decide
      rw [this]; omega
    · have : ((2 : Int) ^ (1 : Int).toNat) = 2 := by decide
      rw [this]; omega
    · have : ((2 : Int) ^ (2 : Int).toNat) = 4 := by decide
      rw [this]; omega
  · rw [if_neg h]; omega
theorem kb_range (kind : Int) (x : ND) : 0 ≤ kb kind x ∧ kb kind x ≤ 64 := by
  unfold kb
  split
  · exact bitsN_range _ _
  · omega
theorem allBits_append (kind : Int) (l : List ND) (x : ND) : allBits kind (l ++ [x]) = allBits kind l + kb kind x := by
  induction l with
  | nil => simp [allBits]
  | cons y l ih => simp only [List.cons_append, allBits, ih]; omega
theorem allBits_take (kind : Int) (l : List ND) (k : Nat) (h : k < l.length) : allBits kind (l.take (k + 1)) = allBits kind (l.take k) + kb kind l[k] := by
  rw [← allBits_append, List.take_succ_eq_append_getElem h]
theorem allBits_range (kind : Int) (l : List ND) : 0 ≤ allBits kind l ∧ allBits kind l ≤ 64 * l.length := by
  induction l with
  | nil => simp [allBits]
  | cons y l ih => have := kb_range kind y; simp only [allBits, List.length_cons]; omega
theorem kb_yes {kind : Int} {x : ND} (h : x.kind = kind) : kb kind x = bitsN x.si x.sw := by unfold kb; rw [if_pos h]
theorem kb_no {kind : Int} {x : ND} (h : ¬ x.kind = kind) : kb kind x = 0 := by unfold kb; rw [if_neg h]

/-- The box of a parameter's model lies at the end of w. -/
def Boxed (s0 s1 s2 s3 s4 : SL) (w wr : World) : Prop :=
  w.heap.size < wr.heap.size ∧ wr.cell? ⟨w.heap.size, 0, none⟩ = some (.slice s0.a s0.len s0.cap) ∧ wr.cell? ⟨w.heap.size, 1, none⟩ = some (.slice s1.a s1.len s1.cap) ∧ wr.cell? ⟨w.heap.size, 2, none⟩ = some (.slice s2.a s2.len s2.cap) ∧ wr.cell? ⟨w.heap.size, 3, none⟩ = some (.slice s3.a s3.len s3.cap) ∧ wr.cell? ⟨w.heap.size, 4, none⟩ = some (.slice s4.a s4.len s4.cap) ∧ Below w.heap.size w wr
theorem Boxed.new (s0 s1 s2 s3 s4 : SL) (w : World) (t : TypeId) : Boxed s0 s1 s2 s3 s4 w (w.alloc (.cells #[.slice s0.a s0.len s0.cap, .slice s1.a s1.len s1.cap, .slice s2.a s2.len s2.cap, .slice s3.a s3.len s3.cap, .slice s4.a s4.len s4.cap] t)) :=
  ⟨alloc_ltS _ _, World.cell?_alloc_new _ _ _ _, World.cell?_alloc_new _ _ _ _, World.cell?_alloc_new _ _ _ _, World.cell?_alloc_new _ _ _ _, World.cell?_alloc_new _ _ _ _, by go_grown⟩
theorem Boxed.below {s0 s1 s2 s3 s4 : SL} {w wr w' : World} (h : Boxed s0 s1 s2 s3 s4 w wr) (hb : Below wr.heap.size wr w') : Boxed s0 s1 s2 s3 s4 w w' := by
  obtain ⟨h1, c0, c1, c2, c3, c4, hB⟩ := h
  exact ⟨Nat.lt_of_lt_of_le h1 hb.size, (hb.cell (p := ⟨w.heap.size, 0, none⟩) h1).trans c0, (hb.cell (p := ⟨w.heap.size, 1, none⟩) h1).trans c1, (hb.cell (p := ⟨w.heap.size, 2, none⟩) h1).trans c2, (hb.cell (p := ⟨w.heap.size, 3, none⟩) h1).trans c3, (hb.cell (p := ⟨w.heap.size, 4, none⟩) h1).trans c4, hB.trans (hb.mono hB.size)⟩

theorem Boxed.drewN {s0 s1 s2 s3 s4 : SL} {w wr : World} (h : Boxed s0 s1 s2 s3 s4 w wr) (m : Nat) : Boxed s0 s1 s2 s3 s4 w (wr.drewN m) := ⟨h.1, h.2.1, h.2.2.1, h.2.2.2.1, h.2.2.2.2.1, h.2.2.2.2.2.1, below_drewN h.2.2.2.2.2.2 m⟩
/-- One node of a slice, as a walk comes to it. -/
theorem node_at {B : Nat} {w : World} {a : Option Addr} {len cap k : Nat} {ns : List ND} (h : NodesAt B w a len cap ns) (hk : k < len) :
    ∃ (nd : ND) (hk' : k < ns.length) (b off : Nat), nd = ns[k] ∧ nd.ok ∧ a = some ⟨b, off, none⟩ ∧ b < B ∧ ∀ j, j < 9 → w.cell? ⟨b, off + k * 9 + j, none⟩ = nd.cells[j]? := by
  obtain ⟨h1, h2, h3, h4, h5, h6⟩ := h
  rcases h6 with h6 | ⟨b, off, e, hlt, hc⟩
  · omega
  · exact ⟨_, by omega, b, off, rfl, h4 _ (List.getElem_mem ..), e, hlt, hc k (by omega)⟩

set_option maxHeartbeats 4000000 in
theorem c_l2All {B : Nat} {s0 s1 s2 s3 s4 : SL} {M : MD} (kind : Int) (w : World) (hBw : B ≤ w.heap.size) (h : ModelAt B w s0 s1 s2 s3 s4 M) (h60 : s0.len ≤ 60) :
    Calls Tryz.prog 27 #[.agg (mcells s0 s1 s2 s3 s4).toArray, .int .i64 kind] w fun e w' => e = .returned (.int .i64 (allBits kind M.ns)) ∧ Below w.heap.size w w' := by
  have HN := Go.Lib.hid h.ns
  have hl0 : M.ns.length = s0.len := h.ns.1
  clear h
  obtain ⟨a0, l0, p0⟩ := s0
  simp only [mcells] at *
  go_enter Tryz.func27, Tryz.ntmps27
  go_wp2_with fail
  go_loopw [5, 6] (fun n i wr => ∃ k : Nat, k ≤ l0 ∧ i = .int .i64 k ∧ n = .int .i64 (allBits kind (M.ns.take k)) ∧ Boxed ⟨a0, l0, p0⟩ s1 s2 s3 s4 w wr) (fun _ i _ => l0 - (intOf i).toNat)
  case atStart => exact ⟨0, by omega, rfl, rfl, Boxed.new _ _ _ _ _ _ _⟩
  case round =>
    obtain ⟨k, hk, rfl, rfl, HX0⟩ := hrel
    have HX := Go.Lib.hid HX0
    obtain ⟨hlt, b0, -, -, -, -, hBk⟩ := HX0
    have HB := Go.Lib.hid hBk
    clear hBk
    by_cases hkl : k < l0
    · have hki : (k : Int) < l0 := by omega
      obtain ⟨nd, hkn, b, off, hnd, hok, ha, hbB, hc⟩ := node_at ((HN.out.rows.below (HB.out.mono hBw)).nodes) hkl
      subst ha
      obtain ⟨c0, c1, c2, c3, c4, c5, c6, c7, c8⟩ := node_cells hc
      have hstep := allBits_take kind M.ns k hkn
      rw [← hnd] at hstep
      have hr1 := allBits_range kind (M.ns.take k)
      have hr2 := kb_range kind nd
      have hr3 : (M.ns.take k).length ≤ 60 := by simp; omega
      clear hc hnd
      by_cases hkk : nd.kind = kind
      · have hwf : (Lit.int .i64 nd.sw).wf = true := hok.2.2.2.2.2.2.2.1
        rw [kb_yes hkk] at hstep hr2
        go_wp2_with fail
        refine (c_SortBitsS _ _ hwf _).mono ?_
        rintro e w1 ⟨rfl, hB1⟩
        have HX1 := Go.Lib.hid (HX.out.below hB1)
        have hw : wrap64 (allBits kind (M.ns.take k) + bitsN nd.si nd.sw) = allBits kind (M.ns.take (k + 1)) := by rw [hstep]; exact IntWalk.wrap64_in _ (by omega)
        clear hB1 c0 c1 c2 c3 c4 c5 c6 c7 c8 b0
        go_wp2_with fail
        go_roundw
        case rel => exact ⟨k + 1, by omega, by go_num, by rw [hstep], HX1.out⟩
        case measure => simp [intOf]; omega
      · rw [kb_no hkk] at hstep
        go_wp2_with fail
        go_roundw
        case rel => exact ⟨k + 1, by omega, by go_num, by rw [hstep]; simp, HX.out⟩
        case measure => simp [intOf]; omega
    · have hki : ¬ (k : Int) < l0 := by omega
      have hke : M.ns.take k = M.ns := List.take_of_length_le (by omega)
      rw [hke]
      go_wp2_with fail
      go_ret
      exact ⟨rfl, HB.out⟩
end Go.Proofs.YtbkcecilbpngcaaGreat
