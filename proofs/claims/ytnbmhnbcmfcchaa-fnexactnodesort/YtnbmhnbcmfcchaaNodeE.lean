/-
  Two slices of the same nodes are alike.
-/
import Derived.Test.YtnbmhnbcmfcchaaRows
import Derived.Test.YtnbmhnbcmfcchaaMath
import Derived.Test.YtnbmhnbcmfcchaaBase
import Derived.Test.YtnbmhnbcmfcchaaSortS
import Derived.Test.YtnbmhnbcmfcchaaNodeD
import Derived.Test.YtnbmhnbcmfcchaaNodeL
import Derived.WalkKit
import Derived.ProofKit
import Derived.OpenShut
import Derived.WalkSpells
import Derived.WalkLawsBesides
import Derived.Outline
import Derived.BigQuiet
import Derived.Handy
import Derived.RegionTactic
import Derived.Deep.RegionWith
namespace Go.Proofs.Ytnbmhnbcmfcchaa
open Go.ChangeShapes Go.WideShapes Go.ChangeAt Go.RowKit
set_option linter.unusedVariables false

theorem below_undrawn {B : Nat} {w w' : World} (hs : B ≤ w.heap.size) (h : Below w.drew.heap.size w.drew w') : Below B w w' :=
  ⟨h.os, h.tape, h.output, h.size, fun k hk => h.block k (Nat.lt_of_lt_of_le hk hs)⟩
theorem c_eqNodeS {B : Nat} {a a' : Option Addr} {len cap cap' : Nat} {ns : List ND} (w : World) (hB : B ≤ w.heap.size) (h : NodesAt B w a len cap ns) (h' : NodesAt B w a' len cap' ns) :
    Calls Try.prog 21 #[.slice a len cap, .slice a' len cap'] w fun e w' => e = .returned (.bool true) ∧ Below B w w' := by
  have hm : len ≤ maxLen := Nat.le_trans h.2.1 h.2.2.1
  unfold maxLen at hm
  have HN : Hid (NodesAt B w a len cap ns) := h
  have HN' : Hid (NodesAt B w a' len cap' ns) := h'
  have hlen : ns.length = len := h.1
  clear h h'
  go_enter Try.func21, Try.ntmps21
  go_wp2
  go_loopw [5] (fun i wr => ∃ k : Nat, k ≤ len ∧ i = .int .i64 k ∧ Below B w wr) (fun i _ => len - (intOf i).toNat)
  case atStart => exact ⟨0, by omega, rfl, Below.refl _ _⟩
  case round =>
    obtain ⟨k, hk, rfl, hBk⟩ := hrel
    by_cases hlt : k < len
    · have hki : (k : Int) < len := by omega
      have hsz : B ≤ wr.heap.size := Nat.le_trans hB hBk.size
      obtain ⟨-, -, -, hok, -, hcells⟩ := (HN.out.below hBk)
      obtain ⟨-, -, -, -, -, hcells'⟩ := (HN'.out.below hBk)
      rcases hcells with h0 | ⟨b, off, rfl, hbB, hc⟩
      · omega
      · rcases hcells' with h0 | ⟨b', off', rfl, hbB', hc'⟩
        · omega
        · have g := hc k (by omega)
          have g' := hc' k (by omega)
          generalize ns[k]'(by omega) = nd at g g'
          obtain ⟨c0, c1, c2, c3, c4, c5, c6, c7, c8⟩ := node_cells g
          obtain ⟨e0, e1, e2, e3, e4, e5, e6, e7, e8⟩ := node_cells g'
          have HB : Hid (Below B w wr) := hBk
          clear hc hc' hok g g' hBk
          go_wp2_with fail
          go_region_with (first | (go_at_call 34; refine (c_eqNode nd _).mono ?_; rintro e w1 ⟨rfl, hB1⟩))
          all_goals
            have hB2 : Hid (Below B w w1) := HB.out.trans (below_undrawn hsz hB1)
            clear c0 c1 c2 c3 c4 c5 c6 c7 c8 e0 e1 e2 e3 e4 e5 e6 e7 e8 hB1
            go_wp2
            go_roundw
            case rel => exact ⟨k + 1, by omega, by go_num, hB2.out⟩
            case measure => simp [intOf]; omega
    · have hki : ¬ (k : Int) < len := by omega
      go_wp2
      go_ret
      exact ⟨rfl, hBk⟩
end Go.Proofs.Ytnbmhnbcmfcchaa
