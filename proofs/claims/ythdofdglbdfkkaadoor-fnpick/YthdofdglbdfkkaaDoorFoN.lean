/-
  The model's diagram of a table, whole.
-/
import Derived.Test.YthdofdglbdfkkaaDoorRows
import Derived.Test.YthdofdglbdfkkaaDoorFoM
import Derived.Test.YthdofdglbdfkkaaDoorFoE
import Derived.WalkKit
import Derived.ProofKit
import Derived.OpenShut
import Derived.WalkSpells
import Derived.WalkLawsBesides
import Derived.Outline
import Derived.BigQuiet
import Derived.Handy
import Derived.LoopTactic
import Derived.Deep.Light
import Derived.Deep.RegionWith
import Derived.Deep.RegionHeld3
import Derived.Deep.DeepCutAuto
import Derived.Lib.Hide
import Derived.Maps.OwnRows
import Derived.Deep.Onto
import Derived.OneCell
import Derived.StillTailTactics
import Derived.Deep.AppendLies
import Derived.Deep.RegionLaw
namespace Go.Proofs.YthdofdglbdfkkaaDoor
open Go.ChangeShapes Go.WideShapes Go.ChangeAt Go.RowKit Go.Maps Go.ChangeMaps
set_option linter.unusedVariables false
set_option maxRecDepth 100000

theorem canon_ev {T : Int → Bool} {vars : Int} : ∀ (n : Nat) (v x c : Int), 0 ≤ v → v + n = vars → 0 ≤ c → c < 2 ^ vars.toNat → c % 2 ^ v.toNat = x → (canon T n v x).ev c = T c := by
  intro n
  induction n with
  | zero =>
    intro v x c hv hn h0 h1 hx
    have hvv : v = vars := by omega
    subst hvv
    have : x = c := by rw [← hx]; exact Int.emod_eq_of_lt h0 h1
    subst this
    rfl
  | succ n ih =>
    intro v x c hv hn h0 h1 hx
    have hp := pow_step v hv
    have hm := mod_two_mul c (2 ^ v.toNat) (pow_pos' v.toNat)
    have hb : bitN c v = 0 ∨ bitN c v = 1 := by unfold bitN; omega
    have e1 : bitN c v = 0 → (canon T n (v + 1) x).ev c = T c := fun h => ih (v + 1) x c (by omega) (by omega) h0 h1 (by
      rw [hp, hm]; unfold bitN at h; rw [h, hx]; simp)
    have e2 : bitN c v = 1 → (canon T n (v + 1) (x + 2 ^ v.toNat)).ev c = T c := fun h => ih (v + 1) _ c (by omega) (by omega) h0 h1 (by
      rw [hp, hm]; unfold bitN at h; rw [h, hx]; simp)
    rw [canon]
    split
    · rename_i heq
      rcases hb with h | h
      · exact e1 h
      · rw [heq]; exact e2 h
    · rcases hb with h | h
      · simp only [DT.ev]; rw [if_neg (by omega)]; exact e1 h
      · simp only [DT.ev]; rw [if_pos h]; exact e2 h

set_option maxHeartbeats 8000000 in
theorem c_l7Of {vars : Int} {B : Nat} {ta : Option Addr} {tl tc : Nat} {TB : List Bool} (hv0 : 0 ≤ vars) (hv13 : vars ≤ 13) (htl : (tl : Int) = 2 ^ vars.toNat) (w : World) (hBw : B ≤ w.heap.size) (h : BoolsAt B w ta tl tc TB) :
    Calls Tryd.prog 44 #[.int .i64 vars, .slice ta tl tc] w (BddQ (AnsR vars (tabF TB)) w) := by
  have HT := Go.Lib.hid h
  have HTL := Go.Lib.hid htl
  have HV0 := Go.Lib.hid hv0
  have HV13 := Go.Lib.hid hv13
  clear h htl hv0 hv13
  go_enter Tryd.func44, Tryd.ntmps44
  go_upto_region 1 with fail
  refine code_gen (R := fun wb => wb.heap[w.heap.size]? = some (.cells #[.int .i64 0, .slice none 0 0, .int .i64 0] 25 (0, 0)) ∧ Below w.heap.size w wb ∧ wb.heap.size = w.heap.size + 1) ⟨by first | exact (MapKept.heap_alloc _ _).1 | exact heap_alloc_new _ _, by go_grown, by show (w.heap.push _).size = _; simp⟩ ?_
  rintro w1 ⟨k1, hb1, hs1⟩
  have HK1 := Go.Lib.hid k1
  have HB1 := Go.Lib.hid hb1
  have HS1 := Go.Lib.hid hs1
  clear k1 hb1 hs1
  go_upto_region 2 with fail
  have hall : ((w1.alloc (.cells #[.int .i64 vars, .slice ta tl tc, .slice none 0 0] 92)).heap.size) = w1.heap.size + 1 := by show (w1.heap.push _).size = _; simp
  refine code_gen (R := fun wb => wb.heap[w.heap.size]? = some (.cells #[.int .i64 0, .slice none 0 0, .int .i64 0] 25 (0, 0)) ∧ MakeAt vars (w.heap.size + 1) w1.heap.size ta tl tc TB (.slice none 0 0) [] wb ∧ Below w.heap.size w wb) ⟨(Below.heap_alloc _ _ _ (blk_lt HK1.out)).trans HK1.out, ⟨(MapKept.heap_alloc _ _).1, (RowsAt.below HT.out (HB1.out.trans (Below.mono (show Below w1.heap.size w1 _ by go_grown) HB1.out.size) |>.mono hBw)).mono (by omega), OwnN.nil _ _, Frs.nil _, by have := HS1.out; omega⟩, HB1.out.trans (Below.mono (show Below w1.heap.size w1 _ by go_grown) HB1.out.size)⟩ ?_
  rintro w2 ⟨k2, hm2, hb2⟩
  obtain ⟨kb, hkb⟩ : ∃ k, w1.heap.size = k := ⟨_, rfl⟩
  rw [hkb] at hm2 ⊢
  have HK2 := Go.Lib.hid k2
  have HM2 := Go.Lib.hid hm2
  have HB2 := Go.Lib.hid hb2
  clear k2 hm2 hb2 hkb hall HK1 HB1 HS1
  go_wp2_with fail
  have hpw : 2 ^ vars.toNat ≤ 8192 := Nat.le_trans (Nat.pow_le_pow_right (by decide) (show vars.toNat ≤ 13 by have := HV13.out; omega)) (by decide)
  refine (c_make HV0.out HV13.out HTL.out vars.toNat 0 0 (.slice none 0 0) [] w2 HM2.out (by omega) (by have := HV0.out; omega) (by omega) (by decide) (by show 0 + _ ≤ _; omega)).mono ?_
  clear hpw
  rintro e w3 ⟨p, v3, ns, rfl, hm3, ha3, hs3, hl3⟩
  have hbel := HM2.out.step hs3
  have HB3 := Go.Lib.hid (HB2.out.trans (hbel.mono (Nat.le_succ _)))
  have HK3 := Go.Lib.hid ((hbel.block _ (Nat.lt_succ_self _)).trans HK2.out)
  have HOW := Go.Lib.hid hm3.own
  have HA := Go.Lib.hid (show (canon (tabF TB) vars.toNat 0 0).Red vars 0 ∧ (∀ c, 0 ≤ c → c < 2 ^ vars.toNat → (canon (tabF TB) vars.toNat 0 0).ev c = tabF TB c) ∧ Adds (canon (tabF TB) vars.toNat 0 0) [] ns p from ⟨canon_red _ _ _ _ (by omega) (by have := HV0.out; omega), fun c h0 h1 => canon_ev vars.toNat 0 0 c (by omega) (by have := HV0.out; omega) h0 h1 (Int.emod_one c), ha3⟩)
  obtain ⟨va, vc, rfl, -⟩ := OwnN.form hm3.own
  have m2 := cell_of_block (i := 2) hm3.blk (v := .slice va ns.length vc) rfl
  have hl9 : (ns.length : Int) ≤ 100000 := by
    have hpw : 2 ^ vars.toNat ≤ 8192 := Nat.le_trans (Nat.pow_le_pow_right (by decide) (show vars.toNat ≤ 13 by have := HV13.out; omega)) (by decide)
    have : ns.length + 1 ≤ 0 + 2 ^ vars.toNat := hl3
    omega
  have z0 := cell_of_block (i := 0) HK3.out (v := .int .i64 0) rfl
  have z1 := cell_of_block (i := 1) HK3.out (v := .slice none 0 0) rfl
  have z2 := cell_of_block (i := 2) HK3.out (v := .int .i64 0) rfl
  have f0 := free_of_block (i := 0) HK3.out
  have f1 := free_of_block (i := 1) HK3.out
  have f2 := free_of_block (i := 2) HK3.out
  clear hm3 ha3 hs3 hl3 hbel
  by_cases h6 : 600 < ns.length
  · have h6i : (600 : Int) < ns.length := by omega
    have HR := Go.Lib.hid (show AnsR vars (tabF TB) 0 [] 0 false from ⟨_, HA.out.1, HA.out.2.1, ns, p, HA.out.2.2, .inr ⟨h6, rfl, rfl, rfl, rfl⟩⟩)
    go_wp2_with fail
    refine bodyPost_ret (v := .tuple #[.agg #[.int .i64 0, .slice none 0 0, .int .i64 0], .bool false]) (results_cell_q (p := 4) (q := 5) rfl _ _ w.heap.size 25 _ (0, 0) _ rfl rfl (heap_setCell_same _ _ 2 _ _ _ (heap_setCell_same _ _ 1 _ _ _ (heap_setCell_same _ _ 0 _ _ _ HK3.out))) Tryd.underlying25 rfl (by kernel_rfl)) rfl ⟨_, _, _, _, [], rfl, OwnN.nil _ _, HR.out, ?_⟩
    exact ((HB3.out.setCell (p := ⟨w.heap.size, 0, none⟩) (Nat.le_refl _) _).setCell (p := ⟨w.heap.size, 1, none⟩) (Nat.le_refl _) _).setCell (p := ⟨w.heap.size, 2, none⟩) (Nat.le_refl _) _
  · have h6i : ¬ (600 : Int) < ns.length := by omega
    have HR := Go.Lib.hid (show AnsR vars (tabF TB) vars ns p true from ⟨_, HA.out.1, HA.out.2.1, ns, p, HA.out.2.2, .inl ⟨by omega, rfl, rfl, rfl, rfl⟩⟩)
    go_wp2_with fail
    refine bodyPost_ret (v := .tuple #[.agg #[.int .i64 vars, .slice va ns.length vc, .int .i64 p], .bool true]) (results_cell_q (p := 4) (q := 5) rfl _ _ w.heap.size 25 _ (0, 0) _ rfl rfl (heap_setCell_same _ _ 2 _ _ _ (heap_setCell_same _ _ 1 _ _ _ (heap_setCell_same _ _ 0 _ _ _ HK3.out))) Tryd.underlying25 rfl (by kernel_rfl)) rfl ⟨_, _, _, _, ns, rfl, ?_, HR.out, ?_⟩
    · exact OwnN.mono (OwnN.block HOW.out (fun y h1 _ _ => by rw [heap_setCell_other _ _ _ _ (by show y ≠ w.heap.size; omega), heap_setCell_other _ _ _ _ (by show y ≠ w.heap.size; omega), heap_setCell_other _ _ _ _ (by show y ≠ w.heap.size; omega)])) (Nat.le_succ _)
    · exact ((HB3.out.setCell (p := ⟨w.heap.size, 0, none⟩) (Nat.le_refl _) _).setCell (p := ⟨w.heap.size, 1, none⟩) (Nat.le_refl _) _).setCell (p := ⟨w.heap.size, 2, none⟩) (Nat.le_refl _) _
end Go.Proofs.YthdofdglbdfkkaaDoor
