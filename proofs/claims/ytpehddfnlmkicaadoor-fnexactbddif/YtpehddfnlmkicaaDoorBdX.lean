/-
  Marks in diagrams.
-/
import Derived.Test.YtpehddfnlmkicaaDoorRows
import Derived.Test.YtpehddfnlmkicaaDoorPaA
import Derived.Test.YtpehddfnlmkicaaDoorG0
import Derived.Test.YtpehddfnlmkicaaDoorBdM
import Derived.Test.YtpehddfnlmkicaaDoorBdC
import Derived.WalkKit
import Derived.ProofKit
import Derived.OpenShut
import Derived.WalkSpells
import Derived.WalkLawsBesides
import Derived.Outline
import Derived.BigQuiet
import Derived.Handy
import Derived.LoopTactic
import Derived.Deep.Light
import Derived.Deep.RegionWith
import Derived.Deep.RegionHeld3
import Derived.Deep.DeepCutAuto
import Derived.Lib.Hide
import Derived.Maps.OwnRows
import Derived.Deep.Onto
import Derived.OneCell
import Derived.StillTailTactics
import Derived.Deep.AppendLies
import Derived.Deep.RegionLaw
namespace Go.Proofs.YtpehddfnlmkicaaDoor
open Go.ChangeShapes Go.WideShapes Go.ChangeAt Go.RowKit Go.Maps Go.ChangeMaps
set_option linter.unusedVariables false
set_option maxRecDepth 100000


theorem cells_put {wr : World} {g m : Nat} {k : Int} (hc : ∀ t : Nat, t < m → wr.cell? ⟨g, t, none⟩ = some (.int .i64 (k + t))) {v0 : Value} (d0 : wr.cell? ⟨g, m, none⟩ = some v0) {z : Int} (hz : z = k + m) :
    ∀ t : Nat, t < m + 1 → (wr.setCell ⟨g, m, none⟩ (.int .i64 z)).cell? ⟨g, t, none⟩ = some (.int .i64 (k + t)) := fun t ht => by
  by_cases e : t = m
  · subst e; rw [hz]; exact World.cell?_setCell_same _ _ _ d0
  · exact (World.cell?_setCell_other _ _ _ _ (by simp <;> omega)).trans (hc t (by omega))
set_option maxHeartbeats 8000000 in
theorem c_markBnS {T : Nat → Prop} {g len cap : Nat} (hT : T g) (k : Int) (hk0 : 0 ≤ k) (hk1 : k ≤ 1099511627776) (hlen : len ≤ 1048576) (w : World) (h : Room w g (len * 3)) :
    Calls Tryd.prog 46 #[.slice (some ⟨g, 0, none⟩) len cap, .int .i64 k] w fun e w' => e = .returned (.int .i64 (k + 3 * len)) ∧ Touch T w w' ∧ g < w'.heap.size ∧ ∀ t : Nat, t < len * 3 → w'.cell? ⟨g, t, none⟩ = some (.int .i64 (k + t)) := by
  have HR := Go.Lib.hid h
  clear h
  go_enter Tryd.func46, Tryd.ntmps46
  go_wp2_with fail
  go_loopw [1, 5] (fun kk i wr => ∃ j : Nat, j ≤ len ∧ i = .int .i64 j ∧ kk = .int .i64 (k + 3 * j) ∧ Touch T w wr ∧ Room wr g (len * 3) ∧ ∀ t : Nat, t < j * 3 → wr.cell? ⟨g, t, none⟩ = some (.int .i64 (k + t))) (fun _ i _ => len - (intOf i).toNat)
  case atStart => exact ⟨0, by omega, rfl, by go_num, Touch.refl _ _, HR.out, fun t h => by omega⟩
  case round =>
    obtain ⟨j, hj, rfl, rfl, ht, hr, hc⟩ := hrel
    have HT0 := Go.Lib.hid ht
    have HR0 := Go.Lib.hid hr
    have HC0 := Go.Lib.hid hc
    clear ht hr hc HR
    by_cases hjl : j < len
    · have hji : (j : Int) < len := by omega
      have hw0 : wrap64 (k + 3 * (j : Int) + 1) = k + 3 * (j : Int) + 1 := IntWalk.wrap64_in _ (by omega)
      have hw1 : wrap64 (k + 3 * (j : Int) + 1 + 1) = k + 3 * (j : Int) + 2 := by rw [show k + 3 * (j : Int) + 1 + 1 = k + 3 * (j : Int) + 2 by omega]; exact IntWalk.wrap64_in _ (by omega)
      have hw2 : wrap64 (k + 3 * (j : Int) + 2 + 1) = k + 3 * (j : Int) + 3 := by rw [show k + 3 * (j : Int) + 2 + 1 = k + 3 * (j : Int) + 3 by omega]; exact IntWalk.wrap64_in _ (by omega)
      obtain ⟨⟨v0, d0⟩, f0⟩ := room_at HR0.out (show j * 3 < len * 3 by omega)
      have HD0 := Go.Lib.hid d0
      go_upto_region 6 with fail
      refine code_gen (R := fun wb => Touch T w wb ∧ Room wb g (len * 3) ∧ ∀ t : Nat, t < j * 3 + 1 → wb.cell? ⟨g, t, none⟩ = some (.int .i64 (k + t))) ⟨Touch.set hT HT0.out _ _, HR0.out.set _ _, cells_put HC0.out HD0.out (by omega)⟩ ?_
      rintro w1 ⟨ht, hr, hc⟩
      have HT1 := Go.Lib.hid ht
      have HR1 := Go.Lib.hid hr
      have HC1 := Go.Lib.hid hc
      clear ht hr hc d0 f0 HD0 HT0 HR0 HC0
      obtain ⟨⟨v1, d1⟩, f1⟩ := room_at HR1.out (show j * 3 + 1 < len * 3 by omega)
      have HD1 := Go.Lib.hid d1
      go_upto_region 8 with fail
      refine code_gen (R := fun wb => Touch T w wb ∧ Room wb g (len * 3) ∧ ∀ t : Nat, t < j * 3 + 2 → wb.cell? ⟨g, t, none⟩ = some (.int .i64 (k + t))) ⟨Touch.set hT HT1.out _ _, HR1.out.set _ _, cells_put HC1.out HD1.out (by omega)⟩ ?_
      rintro w2 ⟨ht, hr, hc⟩
      have HT2 := Go.Lib.hid ht
      have HR2 := Go.Lib.hid hr
      have HC2 := Go.Lib.hid hc
      clear ht hr hc d1 f1 HD1 HT1 HR1 HC1
      obtain ⟨⟨v2, d2⟩, f2⟩ := room_at HR2.out (show j * 3 + 2 < len * 3 by omega)
      have HD2 := Go.Lib.hid d2
      have HQ := Go.Lib.hid (cells_put (z := k + 3 * (j : Int) + 1 + 1) HC2.out HD2.out (by omega))
      go_wp2_with fail
      go_roundw
      case rel => exact ⟨j + 1, by omega, by go_num, by first | go_num | (congr 1; omega), Touch.set hT HT2.out _ _, HR2.out.set _ _, fun t ht => HQ.out t (by omega)⟩
      case measure => simp [intOf] <;> omega
    · have hji : ¬ (j : Int) < len := by omega
      obtain rfl : j = len := by omega
      go_wp2_with fail
      go_ret
      exact ⟨rfl, HT0.out, HR0.out.1, HC0.out⟩
set_option maxHeartbeats 8000000 in
theorem c_heldBnS {g len cap : Nat} (k : Int) (hk0 : 0 ≤ k) (hk1 : k ≤ 1099511627776) (hlen : len ≤ 1048576) (w : World) (h : ∀ t : Nat, t < len * 3 → w.cell? ⟨g, t, none⟩ = some (.int .i64 (k + t))) :
    Calls Tryd.prog 47 #[.slice (some ⟨g, 0, none⟩) len cap, .int .i64 k] w fun e w' => e = .returned (.int .i64 (k + 3 * len)) ∧ w' = w := by
  have HR := Go.Lib.hid h
  clear h
  go_enter Tryd.func47, Tryd.ntmps47
  go_wp2_with fail
  go_loopw [1, 5] (fun kk i wr => ∃ j : Nat, j ≤ len ∧ i = .int .i64 j ∧ kk = .int .i64 (k + 3 * j) ∧ wr = w) (fun _ i _ => len - (intOf i).toNat)
  case atStart => exact ⟨0, by omega, rfl, by go_num, rfl⟩
  case round =>
    obtain ⟨j, hj, rfl, rfl, rfl⟩ := hrel
    by_cases hjl : j < len
    · have hji : (j : Int) < len := by omega
      have hw0 : wrap64 (k + 3 * (j : Int) + 1) = k + 3 * (j : Int) + 1 := IntWalk.wrap64_in _ (by omega)
      have hw1 : wrap64 (k + 3 * (j : Int) + 1 + 1) = k + 3 * (j : Int) + 2 := by rw [show k + 3 * (j : Int) + 1 + 1 = k + 3 * (j : Int) + 2 by omega]; exact IntWalk.wrap64_in _ (by omega)
      have hw2 : wrap64 (k + 3 * (j : Int) + 2 + 1) = k + 3 * (j : Int) + 3 := by rw [show k + 3 * (j : Int) + 2 + 1 = k + 3 * (j : Int) + 3 by omega]; exact IntWalk.wrap64_in _ (by omega)
      have d0 : wr.cell? ⟨g, j * 3, none⟩ = some (.int .i64 (k + 3 * (j : Int))) := by rw [HR.out (j * 3) (by omega)]; congr 2; omega
      have d1 : wr.cell? ⟨g, j * 3 + 1, none⟩ = some (.int .i64 (k + 3 * (j : Int) + 1)) := by rw [HR.out (j * 3 + 1) (by omega)]; congr 2; omega
      have d2 : wr.cell? ⟨g, j * 3 + 2, none⟩ = some (.int .i64 (k + 3 * (j : Int) + 2)) := by rw [HR.out (j * 3 + 2) (by omega)]; congr 2; omega
      go_wp2_with fail
      go_roundw
      case rel => exact ⟨j + 1, by omega, by go_num, by first | go_num | (congr 1; omega), by first | rfl | trivial⟩
      case measure => simp [intOf] <;> omega
    · have hji : ¬ (j : Int) < len := by omega
      obtain rfl : j = len := by omega
      go_wp2_with fail
      go_ret
      exact ⟨rfl, by trivial⟩

set_option maxHeartbeats 4000000 in
theorem c_markBdd {T : Nat → Prop} {g len cap : Nat} (hT : T g) (V R k : Int) (hk0 : 0 ≤ k) (hk1 : k ≤ 1099511627776) (hlen : len ≤ 1048576) (w : World) (h : Room w g (len * 3)) :
    Calls Tryd.prog 15 #[.agg #[.int .i64 V, .slice (some ⟨g, 0, none⟩) len cap, .int .i64 R], .int .i64 k] w fun e w' => e = .returned (.int .i64 (k + 3 * len)) ∧ Touch T w w' ∧ g < w'.heap.size ∧ ∀ t : Nat, t < len * 3 → w'.cell? ⟨g, t, none⟩ = some (.int .i64 (k + t)) := by
  have HR := Go.Lib.hid h
  clear h
  go_enter Tryd.func15, Tryd.ntmps15
  go_upto_region 1 with fail
  refine code_gen (R := fun wb => wb.heap[w.heap.size]? = some (.cells #[.int .i64 V, .slice (some ⟨g, 0, none⟩) len cap, .int .i64 R] 24 (0, 0)) ∧ Below w.heap.size w wb) ⟨by first | exact (MapKept.heap_alloc _ _).1 | exact heap_alloc_new _ _, by go_grown⟩ ?_
  rintro w0 ⟨k0, b0⟩
  have HB0 := Go.Lib.hid b0
  have HR0 := Go.Lib.hid (HR.out.below b0)
  have z1 := cell_of_block (i := 1) k0 (v := .slice (some ⟨g, 0, none⟩) len cap) rfl
  clear k0 b0
  go_wp2_with fail
  refine (c_markBnS hT k hk0 hk1 hlen w0 HR0.out).mono ?_
  rintro e w' ⟨rfl, ht, hg, hc⟩
  have HT := Go.Lib.hid ((Touch.refl T w).below HB0.out |>.trans ht)
  have HC := Go.Lib.hid hc
  have hgl : g < w'.heap.size := hg
  clear ht hg hc z1
  go_wp2_with fail
  go_ret
  exact ⟨rfl, HT.out, hgl, HC.out⟩
set_option maxHeartbeats 4000000 in
theorem c_heldBdd {g len cap : Nat} (V R k : Int) (hk0 : 0 ≤ k) (hk1 : k ≤ 1099511627776) (hlen : len ≤ 1048576) (w : World) (hg : g < w.heap.size) (h : ∀ t : Nat, t < len * 3 → w.cell? ⟨g, t, none⟩ = some (.int .i64 (k + t))) :
    Calls Tryd.prog 16 #[.agg #[.int .i64 V, .slice (some ⟨g, 0, none⟩) len cap, .int .i64 R], .int .i64 k] w fun e w' => e = .returned (.int .i64 (k + 3 * len)) ∧ Below w.heap.size w w' := by
  have HR := Go.Lib.hid h
  clear h
  have hkn : ¬ k + 3 * (len : Int) < 0 := by omega
  go_enter Tryd.func16, Tryd.ntmps16
  go_upto_region 1 with fail
  refine code_gen (R := fun wb => wb.heap[w.heap.size]? = some (.cells #[.int .i64 V, .slice (some ⟨g, 0, none⟩) len cap, .int .i64 R] 24 (0, 0)) ∧ Below w.heap.size w wb) ⟨by first | exact (MapKept.heap_alloc _ _).1 | exact heap_alloc_new _ _, by go_grown⟩ ?_
  rintro w0 ⟨k0, b0⟩
  have HB0 := Go.Lib.hid b0
  have HR0 := Go.Lib.hid (show ∀ t : Nat, t < len * 3 → w0.cell? ⟨g, t, none⟩ = some (.int .i64 (k + t)) from fun t ht => keepc b0 hg (HR.out t ht))
  have z1 := cell_of_block (i := 1) k0 (v := .slice (some ⟨g, 0, none⟩) len cap) rfl
  clear k0 b0
  go_wp2_with fail
  refine (c_heldBnS k hk0 hk1 hlen w0 HR0.out).mono ?_
  rintro e w' ⟨rfl, rfl⟩
  go_wp2_with fail
  go_ret
  exact ⟨rfl, HB0.out⟩
theorem c_markIntSL {T : Nat → Prop} {a : Option Addr} {len cap : Nat} (hlen : len ≤ 1048576) (w : World) (h : OwnS T a len cap w) :
    Calls Tryd.prog 37 #[.slice a len cap, .int .i64 1] w fun e w' => e = .returned (.int .i64 (1 + (len : Int))) ∧ Touch T w w' ∧ HeldS 1 a len cap w' := by
  rcases h with ⟨rfl, rfl, rfl⟩ | ⟨g, rfl, hT, hr⟩
  · refine (c_markIntS_nil 1 w).mono ?_
    rintro e w' ⟨rfl, rfl⟩
    exact ⟨rfl, Touch.refl _ _, .inl ⟨rfl, rfl, rfl⟩⟩
  · refine (c_markIntS hT 1 (by omega) (by omega) (by omega) w hr).mono ?_
    rintro e w' ⟨rfl, h1, h2, h3⟩
    exact ⟨rfl, h1, .inr ⟨g, rfl, h2, h3⟩⟩
theorem OwnS.below {T : Nat → Prop} {a : Option Addr} {len cap : Nat} {w w' : World} (h : OwnS T a len cap w) (hq : Below w.heap.size w w') : OwnS T a len cap w' := by
  rcases h with h | ⟨g, h1, h2, h3⟩
  · exact .inl h
  · exact .inr ⟨g, h1, h2, h3.below hq⟩
theorem OwnS.touch {T T' : Nat → Prop} {a : Option Addr} {len cap : Nat} {w w' : World} (h : OwnS T a len cap w) (hq : Touch T' w w') : OwnS T a len cap w' := by
  rcases h with h | ⟨g, h1, h2, h3⟩
  · exact .inl h
  · exact .inr ⟨g, h1, h2, hq.room _ _ h3⟩
theorem ownS_of {w : World} {base : Nat} {a : Option Addr} {cap : Nat} {zs : List Int} (h : (a = none ∧ zs.length = 0 ∧ cap = 0) ∨ ∃ g, a = some ⟨g, 0, none⟩ ∧ base ≤ g ∧ Room w g (zs.length * 1)) : OwnS (fun b => base ≤ b) a zs.length cap w := h
set_option maxHeartbeats 4000000 in
theorem c_eqIntsB {B : Nat} {a a' : Option Addr} {len cap cap' : Nat} {ns : List Int} (w : World) (hB : B ≤ w.heap.size) (h : IntsAt B w a len cap ns) (h' : IntsAt B w a' len cap' ns) :
    Calls Tryd.prog 36 #[.slice a len cap, .slice a' len cap'] w fun e w' => e = .returned (.bool true) ∧ Below B w w' := by
  have hm : len ≤ maxLen := Nat.le_trans h.2.1 h.2.2.1
  unfold maxLen at hm
  have HN := Go.Lib.hid h
  have HN' := Go.Lib.hid h'
  have hlen : ns.length = len := h.1
  clear h h'
  go_enter Tryd.func36, Tryd.ntmps36
  go_wp2
  go_loopw [5] (fun i wr => ∃ k : Nat, k ≤ len ∧ i = .int .i64 k ∧ Below B w wr) (fun i _ => len - (intOf i).toNat)
  case atStart => exact ⟨0, by omega, rfl, Below.refl _ _⟩
  case round =>
    obtain ⟨k, hk, rfl, hBk⟩ := hrel
    by_cases hlt : k < len
    · have hki : (k : Int) < len := by omega
      obtain ⟨p, b, off, hp, -, rfl, hbB, c0⟩ := int_at (HN.out.below hBk) hlt
      obtain ⟨p', b', off', hp', -, rfl, hbB', d0⟩ := int_at (HN'.out.below hBk) hlt
      obtain rfl : p' = p := by rw [← hp, ← hp']
      have HB := Go.Lib.hid hBk
      clear hp hp' hBk
      go_wp2_with fail
      go_quiet (fail)
      go_wp2
      go_roundw
      case rel => exact ⟨k + 1, by omega, by go_num, below_drewN HB.out _⟩
      case measure => simp [intOf]; omega
    · have hki : ¬ (k : Int) < len := by omega
      go_wp2
      go_ret
      exact ⟨rfl, hBk⟩
end Go.Proofs.YtpehddfnlmkicaaDoor
