/-
  A diagram of codes: the program.
-/
import Derived.Test.YthdofdglbdfkkaaDoorRows
import Derived.Test.YthdofdglbdfkkaaDoorBdF
import Derived.Test.YthdofdglbdfkkaaDoorFoE
import Derived.WalkKit
import Derived.ProofKit
import Derived.OpenShut
import Derived.WalkSpells
import Derived.WalkLawsBesides
import Derived.Outline
import Derived.BigQuiet
import Derived.Handy
import Derived.LoopTactic
import Derived.Deep.Light
import Derived.Deep.RegionWith
import Derived.Deep.RegionHeld3
import Derived.Deep.DeepCutAuto
import Derived.Lib.Hide
import Derived.Maps.OwnRows
import Derived.Deep.Onto
import Derived.OneCell
import Derived.StillTailTactics
import Derived.Deep.AppendLies
import Derived.Deep.RegionLaw
namespace Go.Proofs.YthdofdglbdfkkaaDoor
open Go.ChangeShapes Go.WideShapes Go.ChangeAt Go.RowKit Go.Maps Go.ChangeMaps
set_option linter.unusedVariables false
set_option maxRecDepth 100000

def FromP (vars : Int) (codes : List Int) : Prop := varsB vars = true ∧ codes.length ≤ 256 ∧ ∀ x ∈ codes, 0 ≤ x ∧ x < 2 ^ vars.toNat
set_option maxHeartbeats 8000000 in
theorem c_BddFromI {B : Nat} {a : Option Addr} {len cap : Nat} {codes : List Int} (vars : Int) (w : World) (hgl : Glob w) (hBw : B ≤ w.heap.size) (hn : IntsAt B w a len cap codes) :
    Calls Tryd.prog 22 #[.int .i64 vars, .slice a len cap] w (BddQ (CondR (FromP vars codes) vars (fun c => codesF vars 0 codes c)) w) := by
  have HGL := Go.Lib.hid hgl
  have HN := Go.Lib.hid hn
  have hcl : codes.length = len := hn.1
  have HCL := Go.Lib.hid hcl
  have hlm : (len : Int) ≤ 9223372036854775807 := by have h1 := hn.2.1; have h2 := hn.2.2.1; unfold maxLen at h2; omega
  clear hgl hn hcl
  have hmf : ∀ (fn : Fn) (first cap : Array Value) (w : World), (Instr.makeFunc fn first cap).run Tryd.prog w = .ok (.func fn first cap) w := fun _ _ _ _ => rfl
  go_enter Tryd.func22, Tryd.ntmps22
  go_upto_region 1 with fail
  refine code_gen (R := fun wb => wb.heap[w.heap.size]? = some (.cells #[.int .i64 vars] 3 (0, 0)) ∧ wb.heap[w.heap.size + 1]? = some (.cells #[.slice a len cap] 43 (0, 0)) ∧ wb.heap[w.heap.size + 2]? = some (.cells #[.int .i64 0, .slice none 0 0, .int .i64 0] 25 (0, 0)) ∧ Below w.heap.size w wb) ⟨(al3 _ _ _ _).1, (al3 _ _ _ _).2.1, (al3 _ _ _ _).2.2, by go_grown⟩ ?_
  rintro w0 ⟨k0, k1, k2, hb0⟩
  have K0_0 := Go.Lib.hid k0
  have K1_0 := Go.Lib.hid k1
  have K2_0 := Go.Lib.hid k2
  have B_0 := Go.Lib.hid hb0
  have G_0 := Go.Lib.hid (HGL.out.below hb0)
  clear k0 k1 k2 hb0
  have x00 := cell_of_block (i := 0) K0_0.out (v := .int .i64 vars) rfl
  have x10 := cell_of_block (i := 0) K1_0.out (v := .slice a len cap) rfl
  have N_0 := Go.Lib.hid (HN.out.below (B_0.out.mono hBw))
  have hB_0 : B ≤ w0.heap.size := Nat.le_trans hBw B_0.out.size
  have HV := Go.Lib.hid (c_bddVarsOk vars w0)
  cases hv : varsB vars with
  | false =>
    have HVB := Go.Lib.hid hv
    rw [hv] at HV
    clear hv hmf
    go_wp2_with fail
    refine HV.out.mono ?_
    rintro e w1 ⟨rfl, hw⟩
    cases hw
    have z0 := cell_of_block (i := 0) K2_0.out (v := .int .i64 0) rfl
    have f0 := free_of_block (i := 0) K2_0.out
    have z1 := cell_of_block (i := 1) K2_0.out (v := .slice none 0 0) rfl
    have f1 := free_of_block (i := 1) K2_0.out
    have z2 := cell_of_block (i := 2) K2_0.out (v := .int .i64 0) rfl
    have f2 := free_of_block (i := 2) K2_0.out
    go_wp2_with fail
    refine bodyPost_ret (v := .tuple #[.agg #[.int .i64 0, .slice none 0 0, .int .i64 0], .bool false]) (results_cell_q (p := 4) (q := 5) rfl _ _ (w.heap.size + 2) 25 _ (0, 0) _ rfl rfl (heap_setCell_same _ _ 2 _ _ _ (heap_setCell_same _ _ 1 _ _ _ (heap_setCell_same _ _ 0 _ _ _ K2_0.out))) Tryd.underlying25 rfl (by kernel_rfl)) rfl ⟨_, _, _, _, [], rfl, OwnN.nil _ _, .inr ⟨(fun h => by have h1 := h.1; rw [HVB.out] at h1; cases h1), rfl, rfl, rfl, rfl⟩, ?_⟩
    exact (((B_0.out).setCell (p := ⟨w.heap.size + 2, 0, none⟩) (Nat.le_add_right _ _) _).setCell (p := ⟨w.heap.size + 2, 1, none⟩) (Nat.le_add_right _ _) _).setCell (p := ⟨w.heap.size + 2, 2, none⟩) (Nat.le_add_right _ _) _
  | true =>
    have HVB := Go.Lib.hid hv
    rw [hv] at HV
    clear hv
    obtain ⟨hv0, hv13⟩ := of_decide_eq_true HVB.out
    by_cases hl : 256 < len
    · have hli : (256 : Int) < len := by omega
      have HL := Go.Lib.hid hl
      clear hmf
      go_wp2_with fail
      refine HV.out.mono ?_
      rintro e w1 ⟨rfl, hw⟩
      cases hw
      have z0 := cell_of_block (i := 0) K2_0.out (v := .int .i64 0) rfl
      have f0 := free_of_block (i := 0) K2_0.out
      have z1 := cell_of_block (i := 1) K2_0.out (v := .slice none 0 0) rfl
      have f1 := free_of_block (i := 1) K2_0.out
      have z2 := cell_of_block (i := 2) K2_0.out (v := .int .i64 0) rfl
      have f2 := free_of_block (i := 2) K2_0.out
      go_wp2_with fail
      refine bodyPost_ret (v := .tuple #[.agg #[.int .i64 0, .slice none 0 0, .int .i64 0], .bool false]) (results_cell_q (p := 4) (q := 5) rfl _ _ (w.heap.size + 2) 25 _ (0, 0) _ rfl rfl (heap_setCell_same _ _ 2 _ _ _ (heap_setCell_same _ _ 1 _ _ _ (heap_setCell_same _ _ 0 _ _ _ K2_0.out))) Tryd.underlying25 rfl (by kernel_rfl)) rfl ⟨_, _, _, _, [], rfl, OwnN.nil _ _, .inr ⟨(fun h => by have h1 := h.2.1; have h2 := HCL.out; have h3 := HL.out; omega), rfl, rfl, rfl, rfl⟩, ?_⟩
      exact (((B_0.out).setCell (p := ⟨w.heap.size + 2, 0, none⟩) (Nat.le_add_right _ _) _).setCell (p := ⟨w.heap.size + 2, 1, none⟩) (Nat.le_add_right _ _) _).setCell (p := ⟨w.heap.size + 2, 2, none⟩) (Nat.le_add_right _ _) _
    have hli : ¬ (256 : Int) < len := by omega
    have HLE := Go.Lib.hid (show len ≤ 256 by omega)
    go_wp2_with fail
    refine HV.out.mono ?_
    rintro e w1 ⟨rfl, hw⟩
    cases hw
    go_wp2_with fail
    go_loopw [19] (fun i wr => ∃ k : Nat, k ≤ len ∧ i = .int .i64 k ∧ (∀ x ∈ codes.take k, 0 ≤ x ∧ x < 2 ^ vars.toNat) ∧ SameW wr w0) (fun i _ => len - (intOf i).toNat)
    case atStart => exact ⟨0, by omega, rfl, by simp, rfl⟩
    case round =>
      obtain ⟨k, hk, rfl, hall, hwr⟩ := hrel
      have hwr' : wr = w0 := hwr
      clear hwr
      subst hwr'
      have HALL := Go.Lib.hid hall
      clear hall
      by_cases hkl : k < len
      · have hki : (k : Int) < len := by omega
        obtain ⟨x, b, off, hx, -, rfl, hbB, c0⟩ := int_at N_0.out hkl
        have HCO := Go.Lib.hid (c_bddCodeOk vars x hv0 hv13 wr)
        have hkc : k < codes.length := by have := HCL.out; omega
        have hxk : codes[k] = x := by rw [← hx]; simp [List.getD, hkc]
        have HTK := Go.Lib.hid (show codes.take (k + 1) = codes.take k ++ [x] by rw [List.take_succ_eq_append_getElem hkc, hxk])
        have HMEM := Go.Lib.hid (show x ∈ codes by rw [← hxk]; exact List.getElem_mem ..)
        clear hx hxk hkc
        by_cases hok : 0 ≤ x ∧ x < 2 ^ vars.toNat
        · have HOK := Go.Lib.hid hok
          rw [show decide (0 ≤ x ∧ x < 2 ^ vars.toNat) = true from decide_eq_true hok] at HCO
          clear hok
          go_wp2_with fail
          refine HCO.out.mono ?_
          rintro e w1 ⟨rfl, hw⟩
          cases hw
          go_wp2_with fail
          go_roundw
          case rel => exact ⟨k + 1, by omega, by go_num, by rw [HTK.out]; intro y hy; rw [List.mem_append] at hy; rcases hy with hy | hy; exact HALL.out y hy; simp at hy; subst hy; exact HOK.out, rfl⟩
          case measure => simp [intOf]; omega
        · have HOK := Go.Lib.hid hok
          rw [show decide (0 ≤ x ∧ x < 2 ^ vars.toNat) = false from decide_eq_false hok] at HCO
          clear hok
          go_wp2_with fail
          refine HCO.out.mono ?_
          rintro e w1 ⟨rfl, hw⟩
          cases hw
          have z0 := cell_of_block (i := 0) K2_0.out (v := .int .i64 0) rfl
          have f0 := free_of_block (i := 0) K2_0.out
          have z1 := cell_of_block (i := 1) K2_0.out (v := .slice none 0 0) rfl
          have f1 := free_of_block (i := 1) K2_0.out
          have z2 := cell_of_block (i := 2) K2_0.out (v := .int .i64 0) rfl
          have f2 := free_of_block (i := 2) K2_0.out
          go_wp2_with fail
          refine bodyPost_ret (v := .tuple #[.agg #[.int .i64 0, .slice none 0 0, .int .i64 0], .bool false]) (results_cell_q (p := 4) (q := 5) rfl _ _ (w.heap.size + 2) 25 _ (0, 0) _ rfl rfl (heap_setCell_same _ _ 2 _ _ _ (heap_setCell_same _ _ 1 _ _ _ (heap_setCell_same _ _ 0 _ _ _ K2_0.out))) Tryd.underlying25 rfl (by kernel_rfl)) rfl ⟨_, _, _, _, [], rfl, OwnN.nil _ _, .inr ⟨(fun h => HOK.out (h.2.2 x HMEM.out)), rfl, rfl, rfl, rfl⟩, ?_⟩
          exact (((B_0.out).setCell (p := ⟨w.heap.size + 2, 0, none⟩) (Nat.le_add_right _ _) _).setCell (p := ⟨w.heap.size + 2, 1, none⟩) (Nat.le_add_right _ _) _).setCell (p := ⟨w.heap.size + 2, 2, none⟩) (Nat.le_add_right _ _) _
      · have hki : ¬ (k : Int) < len := by omega
        obtain rfl : k = len := by omega
        have HP := Go.Lib.hid (show FromP vars codes from ⟨HVB.out, by have := HCL.out; have := HLE.out; omega, by have h1 := HALL.out; rw [List.take_of_length_le (by have := HCL.out; omega)] at h1; exact h1⟩)
        go_wp2_with fail
        refine (c_bddAnswer (G := 30000) (f := fun c => codesF vars 0 codes c) hv0 hv13 wr G_0.out.2 G_0.out.1 (by decide) calls_BddFrom (fun fb mb pb v w2 hf hfb hb => c_BddFrom1 (B := wr.heap.size) HVB.out w2 hf hb.size ((N_0.out.mono hB_0).below hb) HLE.out (fun x hx => (HP.out.2.2 x hx).1) (keepc hb (blk_lt K0_0.out) (cell_of_block (i := 0) K0_0.out rfl)) (keepc hb (blk_lt K1_0.out) (cell_of_block (i := 0) K1_0.out rfl)))).mono ?_
        rintro e w2 ⟨x, V, R, bb, ms, rfl, hown, hrel, hq⟩
        have K2_2 := Go.Lib.hid (blk_keep K2_0.out hq)
        have B_2 := Go.Lib.hid (B_0.out.trans (hq.mono B_0.out.size))
        have HKL := Go.Lib.hid (blk_lt K2_0.out)
        have HOW := Go.Lib.hid hown
        have HREL := Go.Lib.hid hrel
        obtain ⟨xa, xc, rfl, -⟩ := OwnN.form hown
        clear hown hrel hq
        have z0 := cell_of_block (i := 0) K2_2.out (v := .int .i64 0) rfl
        have f0 := free_of_block (i := 0) K2_2.out
        have z1 := cell_of_block (i := 1) K2_2.out (v := .slice none 0 0) rfl
        have f1 := free_of_block (i := 1) K2_2.out
        have z2 := cell_of_block (i := 2) K2_2.out (v := .int .i64 0) rfl
        have f2 := free_of_block (i := 2) K2_2.out
        go_wp2_with fail
        refine bodyPost_ret (v := .tuple #[.agg #[.int .i64 V, .slice xa ms.length xc, .int .i64 R], .bool bb]) (results_cell_q (p := 4) (q := 5) rfl _ _ (w.heap.size + 2) 25 _ (0, 0) _ rfl rfl (heap_setCell_same _ _ 2 _ _ _ (heap_setCell_same _ _ 1 _ _ _ (heap_setCell_same _ _ 0 _ _ _ K2_2.out))) Tryd.underlying25 rfl (by kernel_rfl)) rfl ⟨_, _, _, _, ms, rfl, ?_, .inl ⟨HP.out, HREL.out⟩, ?_⟩
        · exact OwnN.mono (OwnN.block HOW.out (fun y h1 _ _ => by have h2 := HKL.out; rw [heap_setCell_other _ _ _ _ (by show y ≠ w.heap.size + 2; omega), heap_setCell_other _ _ _ _ (by show y ≠ w.heap.size + 2; omega), heap_setCell_other _ _ _ _ (by show y ≠ w.heap.size + 2; omega)])) B_0.out.size
        · exact (((B_2.out).setCell (p := ⟨w.heap.size + 2, 0, none⟩) (Nat.le_add_right _ _) _).setCell (p := ⟨w.heap.size + 2, 1, none⟩) (Nat.le_add_right _ _) _).setCell (p := ⟨w.heap.size + 2, 2, none⟩) (Nat.le_add_right _ _) _
end Go.Proofs.YthdofdglbdfkkaaDoor
