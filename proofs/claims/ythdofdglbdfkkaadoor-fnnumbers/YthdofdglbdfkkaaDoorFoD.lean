/-
  The model's functions that give a diagram of a table: a list of numbers.
-/
import Derived.Test.YthdofdglbdfkkaaDoorRows
import Derived.Test.YthdofdglbdfkkaaDoorG0
import Derived.Test.YthdofdglbdfkkaaDoorPaA
import Derived.Test.YthdofdglbdfkkaaDoorBdT
import Derived.Test.YthdofdglbdfkkaaDoorBdE
import Derived.Test.YthdofdglbdfkkaaDoorFoN
import Derived.Test.YthdofdglbdfkkaaDoorFoO
import Derived.Test.YthdofdglbdfkkaaDoorFoF
import Derived.Test.YthdofdglbdfkkaaDoorFoZ
import Derived.WalkKit
import Derived.ProofKit
import Derived.OpenShut
import Derived.WalkSpells
import Derived.WalkLawsBesides
import Derived.Outline
import Derived.BigQuiet
import Derived.Handy
import Derived.LoopTactic
import Derived.Deep.Light
import Derived.Deep.RegionWith
import Derived.Deep.RegionHeld3
import Derived.Deep.DeepCutAuto
import Derived.Lib.Hide
import Derived.Maps.OwnRows
import Derived.Deep.Onto
import Derived.OneCell
import Derived.StillTailTactics
import Derived.Deep.AppendLies
import Derived.Deep.RegionLaw
namespace Go.Proofs.YthdofdglbdfkkaaDoor
open Go.ChangeShapes Go.WideShapes Go.ChangeAt Go.RowKit Go.Maps Go.ChangeMaps
set_option linter.unusedVariables false
set_option maxRecDepth 100000

theorem bits_mod {x c : Int} : ∀ n : Nat, (∀ v : Int, 0 ≤ v → v < n → bitN x v = bitN c v) → x % 2 ^ n = c % 2 ^ n
  | 0, _ => by simp [Int.emod_one]
  | n + 1, h => by
    have hp := pow_pos' n
    have hb : x / 2 ^ n % 2 = c / 2 ^ n % 2 := h (n : Int) (by omega) (by omega)
    rw [Int.pow_succ, mod_two_mul x _ hp, mod_two_mul c _ hp, bits_mod n (fun v h0 h1 => h v h0 (by omega)), hb]
theorem eq_of_bits {x c vars : Int} (hx : 0 ≤ x ∧ x < 2 ^ vars.toNat) (hc : 0 ≤ c ∧ c < 2 ^ vars.toNat) (h : ∀ v : Int, 0 ≤ v → v < vars → bitN x v = bitN c v) : x = c := by
  have := bits_mod vars.toNat (x := x) (c := c) (fun v h0 h1 => h v h0 (by omega))
  rwa [Int.emod_eq_of_lt hx.1 hx.2, Int.emod_eq_of_lt hc.1 hc.2] at this
open Classical in
theorem codesF_add {vars x c : Int} {l : List Int} (hx : 0 ≤ x ∧ x < 2 ^ vars.toNat) (hc : 0 ≤ c ∧ c < 2 ^ vars.toNat)   : codesF vars 0 (l ++ [x]) c = if c = x then true else codesF vars 0 l c := by
  unfold codesF
  by_cases e : c = x
  · rw [if_pos e]
    exact decide_eq_true (show codesT vars 0 (l ++ [x]) c from ⟨x, by simp, fun v _ _ => by rw [e]⟩)
  · rw [if_neg e]
    refine decide_eq_decide.2 ⟨?_, ?_⟩
    · rintro ⟨z, hz, hv⟩
      rw [List.mem_append] at hz
      rcases hz with hz | hz
      · exact ⟨z, hz, hv⟩
      · simp at hz; subst hz; exact absurd (eq_of_bits hc hx (fun v h0 h1 => (hv v h0 h1).symm)) e
    · rintro ⟨z, hz, hv⟩
      exact ⟨z, List.mem_append_left _ hz, hv⟩
/-- A table of bools. -/
structure TabIs (g tl : Nat) (F : Int → Bool) (w : World) : Prop where
  lt : g < w.heap.size
  c : ∀ j : Nat, j < tl → w.cell? ⟨g, j, none⟩ = some (.bool (F j)) ∧ w.frozen? ⟨g, j, none⟩ = false
theorem TabIs.below {g tl : Nat} {F : Int → Bool} {w w' : World} (h : TabIs g tl F w) (hb : Below w.heap.size w w') : TabIs g tl F w' :=
  ⟨Nat.lt_of_lt_of_le h.lt hb.size, fun j hj => ⟨(hb.cell (p := ⟨g, j, none⟩) h.lt).trans (h.c j hj).1, (hb.frozen (p := ⟨g, j, none⟩) h.lt).trans (h.c j hj).2⟩⟩
theorem TabIs.put {g tl : Nat} {F F' : Int → Bool} {w : World} (h : TabIs g tl F w) {x : Nat} (hx : x < tl) (hF : ∀ j : Nat, j < tl → F' j = if (j : Int) = x then true else F j) : TabIs g tl F' (w.setCell ⟨g, x, none⟩ (.bool true)) := by
  refine ⟨by simpa [World.setCell] using h.lt, fun j hj => ⟨?_, ?_⟩⟩
  · by_cases e : j = x
    · subst e
      rw [World.cell?_setCell_same' _ _ _ (by rw [(h.c j hj).1]; rfl), hF j hj, if_pos rfl]
    · have e3 : (w.setCell ⟨g, x, none⟩ (.bool true)).cell? ⟨g, j, none⟩ = w.cell? ⟨g, j, none⟩ := World.cell?_setCell_other w _ _ _ (fun e2 => e (by have := (Addr.mk.inj e2).2.1; omega))
      rw [e3, (h.c j hj).1, hF j hj, if_neg (by omega)]
  · rw [World.frozen?_setCell]; exact (h.c j hj).2
theorem tab_false {w w0 : World} {tl : Nat} {F : Int → Bool} (hF : ∀ j : Nat, F j = false) (hown : w0.ownsRow w.heap.size 4 1 (.slice (some ⟨w.heap.size, 0, none⟩) tl tl) tl (madeCells (Value.bool false).cells (tl * 1)).toList) (hgrow : w.grownBy w0 none) : TabIs w.heap.size tl F w0 ∧ Below w.heap.size w w0 := by
  obtain ⟨j', h1, h2, h3, h4, h5, h6⟩ := tab_made (ns := []) hown hgrow
  refine ⟨⟨h3, fun j hj => ⟨?_, ?_⟩⟩, h6⟩
  · have e := hown.cellAt j (by omega)
    rw [e, hF]
    have e2 : (madeCells (Value.bool false).cells (tl * 1)).toList = List.replicate (tl * 1) (.bool false) := toList_madeCells_one (.bool false) (tl * 1)
    rw [e2, List.getElem?_replicate, if_pos (by omega)]
  · exact hown.frozenAt j
theorem TabIs.bools {g tl : Nat} {F : Int → Bool} {w : World} (h : TabIs g tl F w) (hm : tl ≤ 8192) : BoolsAt w.heap.size w (some ⟨g, 0, none⟩) tl tl (TBf tl F) :=
  ⟨TBf_len _ _, Nat.le_refl _, by unfold maxLen; omega, fun _ _ => trivial, fun e => by simp at e, .inr ⟨g, 0, rfl, h.lt, fun i hi q hq => by
    have hi' : i < tl := by rw [TBf_len] at hi; exact hi
    have hq0 : q = 0 := by omega
    subst hq0
    have := (h.c i hi').1
    simp only [Nat.zero_add, Nat.mul_one, Nat.add_zero]
    rw [this, TBf_get]
    rfl⟩⟩

set_option maxHeartbeats 8000000 in
theorem c_BddFromS {B : Nat} {a : Option Addr} {len cap : Nat} {codes : List Int} (vars : Int) (w : World) (hBw : B ≤ w.heap.size) (hn : IntsAt B w a len cap codes) :
    Calls Tryd.prog 23 #[.int .i64 vars, .slice a len cap] w (BddQ (CondR (FromP vars codes) vars (fun c => codesF vars 0 codes c)) w) := by
  have HN := Go.Lib.hid hn
  have hcl : codes.length = len := hn.1
  have HCL := Go.Lib.hid hcl
  have hlm : (len : Int) ≤ 9223372036854775807 := by have h1 := hn.2.1; have h2 := hn.2.2.1; unfold maxLen at h2; omega
  clear hn hcl
  go_enter Tryd.func23, Tryd.ntmps23
  go_upto_region 1 with fail
  refine code_gen (R := fun wb => wb.heap[w.heap.size]? = some (.cells #[.int .i64 0, .slice none 0 0, .int .i64 0] 25 (0, 0)) ∧ Below w.heap.size w wb) ⟨(MapKept.heap_alloc _ _).1, by go_grown⟩ ?_
  rintro w0 ⟨k0, hb0⟩
  have K0_0 := Go.Lib.hid k0
  have B_0 := Go.Lib.hid hb0
  clear k0 hb0
  have N_0 := Go.Lib.hid (HN.out.below (B_0.out.mono hBw))
  have hB_0 : B ≤ w0.heap.size := Nat.le_trans hBw B_0.out.size
  have HV := Go.Lib.hid (c_l7Vars vars w0)
  cases hv : varsB vars with
  | false =>
    have HVB := Go.Lib.hid hv
    rw [hv] at HV
    clear hv
    go_wp2_with fail
    refine HV.out.mono ?_
    rintro e w1 ⟨rfl, hw⟩
    cases hw
    have z0 := cell_of_block (i := 0) K0_0.out (v := .int .i64 0) rfl
    have f0 := free_of_block (i := 0) K0_0.out
    have z1 := cell_of_block (i := 1) K0_0.out (v := .slice none 0 0) rfl
    have f1 := free_of_block (i := 1) K0_0.out
    have z2 := cell_of_block (i := 2) K0_0.out (v := .int .i64 0) rfl
    have f2 := free_of_block (i := 2) K0_0.out
    go_wp2_with fail
    refine bodyPost_ret (v := .tuple #[.agg #[.int .i64 0, .slice none 0 0, .int .i64 0], .bool false]) (results_cell_q (p := 4) (q := 5) rfl _ _ (w.heap.size) 25 _ (0, 0) _ rfl rfl (heap_setCell_same _ _ 2 _ _ _ (heap_setCell_same _ _ 1 _ _ _ (heap_setCell_same _ _ 0 _ _ _ K0_0.out))) Tryd.underlying25 rfl (by kernel_rfl)) rfl ⟨_, _, _, _, [], rfl, OwnN.nil _ _, .inr ⟨(fun h => by have h1 := h.1; rw [HVB.out] at h1; cases h1), rfl, rfl, rfl, rfl⟩, ?_⟩
    exact (((B_0.out).setCell (p := ⟨w.heap.size, 0, none⟩) (Nat.le_refl _) _).setCell (p := ⟨w.heap.size, 1, none⟩) (Nat.le_refl _) _).setCell (p := ⟨w.heap.size, 2, none⟩) (Nat.le_refl _) _
  | true =>
    have HVB := Go.Lib.hid hv
    rw [hv] at HV
    clear hv
    have HV13 := Go.Lib.hid (of_decide_eq_true HVB.out)
    by_cases hl : 256 < len
    · have hli : (256 : Int) < len := by omega
      have HL := Go.Lib.hid hl
      go_wp2_with fail
      refine HV.out.mono ?_
      rintro e w1 ⟨rfl, hw⟩
      cases hw
      have z0 := cell_of_block (i := 0) K0_0.out (v := .int .i64 0) rfl
      have f0 := free_of_block (i := 0) K0_0.out
      have z1 := cell_of_block (i := 1) K0_0.out (v := .slice none 0 0) rfl
      have f1 := free_of_block (i := 1) K0_0.out
      have z2 := cell_of_block (i := 2) K0_0.out (v := .int .i64 0) rfl
      have f2 := free_of_block (i := 2) K0_0.out
      go_wp2_with fail
      refine bodyPost_ret (v := .tuple #[.agg #[.int .i64 0, .slice none 0 0, .int .i64 0], .bool false]) (results_cell_q (p := 4) (q := 5) rfl _ _ (w.heap.size) 25 _ (0, 0) _ rfl rfl (heap_setCell_same _ _ 2 _ _ _ (heap_setCell_same _ _ 1 _ _ _ (heap_setCell_same _ _ 0 _ _ _ K0_0.out))) Tryd.underlying25 rfl (by kernel_rfl)) rfl ⟨_, _, _, _, [], rfl, OwnN.nil _ _, .inr ⟨(fun h => by have h1 := h.2.1; have h2 := HCL.out; have h3 := HL.out; omega), rfl, rfl, rfl, rfl⟩, ?_⟩
      exact (((B_0.out).setCell (p := ⟨w.heap.size, 0, none⟩) (Nat.le_refl _) _).setCell (p := ⟨w.heap.size, 1, none⟩) (Nat.le_refl _) _).setCell (p := ⟨w.heap.size, 2, none⟩) (Nat.le_refl _) _
    have hli : ¬ (256 : Int) < len := by omega
    have HLE := Go.Lib.hid (show len ≤ 256 by omega)
    go_wp2_with fail
    refine HV.out.mono ?_
    rintro e w1 ⟨rfl, hw⟩
    cases hw
    obtain ⟨tl, htl⟩ : ∃ tl : Nat, (tl : Int) = 2 ^ vars.toNat := ⟨2 ^ vars.toNat, by simp⟩
    have hw2 : wrap64 (2 ^ min (IntKind.u64.wrap vars).toNat 64) = (tl : Int) := by
      have hv13 := HV13.out
      rw [IntWalk.u64_in _ (by omega), Nat.min_eq_left (by omega), wrap_p2 (by omega)]; exact htl.symm
    have htl8 : tl ≤ 8192 := by have h1 := p2_13 HV13.out.1 HV13.out.2; omega
    have HTL := Go.Lib.hid htl
    obtain ⟨i0, hi0, hz0, hz1, hz2⟩ := info_parts boolInfo
    obtain ⟨w9, hrun, hown, hgrow⟩ := run_make_full (P := Tryd.prog) w0 w0.heap.size 64 4 i0 _ 1 Tryd.underlying64 hi0 hz0 hz1 .i64 .i64 tl (by rw [hz2]; omega) (by unfold maxLen; omega) (Nat.le_refl _)
    have HC9 := Go.Lib.hid (tab_false (F := fun c => codesF vars 0 (codes.take 0) c) (fun j => by rw [List.take_zero]; exact codesF_nil _ _ _) hown hgrow)
    clear hi0 hz0 hz1 hz2 hown hgrow htl
    go_wp2_with fail
    clear hrun hw2
    go_loopw [7] (fun q wr => ∃ k : Nat, k ≤ len ∧ q = .int .i64 k ∧ (∀ x ∈ codes.take k, 0 ≤ x ∧ x < 2 ^ vars.toNat) ∧ TabIs w0.heap.size tl (fun c => codesF vars 0 (codes.take k) c) wr ∧ Below w0.heap.size w0 wr) (fun q _ => len - (intOf q).toNat)
    case atStart => exact ⟨0, by omega, rfl, by simp, HC9.out.1, HC9.out.2⟩
    case round =>
      obtain ⟨k, hk, rfl, hall, htab, hbel⟩ := hrel
      have HALL := Go.Lib.hid hall
      have HTAB := Go.Lib.hid htab
      have H_wr := Go.Lib.hid hbel
      have N_wr := Go.Lib.hid (N_0.out.below (hbel.mono hB_0))
      have K0_wr := Go.Lib.hid (blk_keep K0_0.out hbel)
      have B_wr := Go.Lib.hid (B_0.out.trans (hbel.mono B_0.out.size))
      clear hall htab hbel
      by_cases hkl : k < len
      · have hki : (k : Int) < len := by omega
        obtain ⟨x, b, off, hx, -, rfl, hbB, c0⟩ := int_at N_wr.out hkl
        have hkc : k < codes.length := by have := HCL.out; omega
        have hxk : codes[k] = x := by rw [← hx]; simp [List.getD, hkc]
        have HTK := Go.Lib.hid (show codes.take (k + 1) = codes.take k ++ [x] by rw [List.take_succ_eq_append_getElem hkc, hxk])
        have HMEM := Go.Lib.hid (show x ∈ codes by rw [← hxk]; exact List.getElem_mem ..)
        clear hx hxk hkc
        have hw3 : wrap64 ((tl : Int) - 1) = (tl : Int) - 1 := IntWalk.wrap64_in _ (by omega)
        have HT := Go.Lib.hid (c_l1In x 0 ((tl : Int) - 1) wr)
        cases hb : (decide (0 ≤ x) && decide (x ≤ (tl : Int) - 1)) with
        | false =>
          have HBB := Go.Lib.hid hb
          rw [hb] at HT
          clear hb
          go_wp2_with fail
          refine HT.out.mono ?_
          rintro e w2 ⟨rfl, hw⟩
          cases hw
          have z0 := cell_of_block (i := 0) K0_wr.out (v := .int .i64 0) rfl
          have f0 := free_of_block (i := 0) K0_wr.out
          have z1 := cell_of_block (i := 1) K0_wr.out (v := .slice none 0 0) rfl
          have f1 := free_of_block (i := 1) K0_wr.out
          have z2 := cell_of_block (i := 2) K0_wr.out (v := .int .i64 0) rfl
          have f2 := free_of_block (i := 2) K0_wr.out
          go_wp2_with fail
          refine bodyPost_ret (v := .tuple #[.agg #[.int .i64 0, .slice none 0 0, .int .i64 0], .bool false]) (results_cell_q (p := 4) (q := 5) rfl _ _ (w.heap.size) 25 _ (0, 0) _ rfl rfl (heap_setCell_same _ _ 2 _ _ _ (heap_setCell_same _ _ 1 _ _ _ (heap_setCell_same _ _ 0 _ _ _ K0_wr.out))) Tryd.underlying25 rfl (by kernel_rfl)) rfl ⟨_, _, _, _, [], rfl, OwnN.nil _ _, .inr ⟨(fun h => by have h1 := HBB.out; have h2 := h.2.2 x HMEM.out; have h3 := HTL.out; simp at h1; omega), rfl, rfl, rfl, rfl⟩, ?_⟩
          exact (((B_wr.out).setCell (p := ⟨w.heap.size, 0, none⟩) (Nat.le_refl _) _).setCell (p := ⟨w.heap.size, 1, none⟩) (Nat.le_refl _) _).setCell (p := ⟨w.heap.size, 2, none⟩) (Nat.le_refl _) _
        | true =>
          have HBB := Go.Lib.hid (show 0 ≤ x ∧ x < (tl : Int) by simp at hb; omega)
          rw [hb] at HT
          clear hb
          obtain ⟨xn, rfl⟩ : ∃ xn : Nat, x = xn := ⟨x.toNat, by have := HBB.out.1; omega⟩
          have hxt : xn < tl := by have := HBB.out.2; omega
          go_wp2_with fail
          refine HT.out.mono ?_
          rintro e w2 ⟨rfl, hw⟩
          cases hw
          clear hw3
          have v0 := (HTAB.out.c xn hxt).1
          have f0 := (HTAB.out.c xn hxt).2
          have HP := Go.Lib.hid (show TabIs w0.heap.size tl (fun c => codesF vars 0 (codes.take (k + 1)) c) (wr.setCell ⟨w0.heap.size, xn, none⟩ (.bool true)) from HTAB.out.put hxt (fun j hj => by
            have h3 := HTL.out
            show codesF vars 0 (codes.take (k + 1)) (j : Int) = _
            rw [HTK.out]
            exact codesF_add ⟨by omega, by have := HBB.out.2; omega⟩ ⟨by omega, by omega⟩))
          have HQ := Go.Lib.hid (H_wr.out.setCell (p := ⟨w0.heap.size, xn, none⟩) (Nat.le_refl _) (.bool true))
          go_wp2_with fail
          go_roundw
          case rel => exact ⟨k + 1, by omega, by go_num, by rw [HTK.out]; intro y hy; rw [List.mem_append] at hy; rcases hy with hy | hy; exact HALL.out y hy; simp at hy; subst hy; exact ⟨HBB.out.1, by have h1 := HBB.out.2; have h3 := HTL.out; omega⟩, HP.out, HQ.out⟩
          case measure => simp [intOf]; omega
      · have hki : ¬ (k : Int) < len := by omega
        obtain rfl : k = len := by omega
        have hte : codes.take k = codes := List.take_of_length_le (by have := HCL.out; omega)
        rw [hte] at HALL HTAB
        clear hte
        have HP := Go.Lib.hid (show FromP vars codes from ⟨HVB.out, by have := HCL.out; have := HLE.out; omega, HALL.out⟩)
        have HBO := Go.Lib.hid (HTAB.out.bools htl8)
        go_wp2_with fail
        refine (c_l7Of (B := wr.heap.size) HV13.out.1 HV13.out.2 HTL.out wr (Nat.le_refl _) HBO.out).mono ?_
        rintro e wf ⟨x, V, R, bb, ms, rfl, hown, hrel, hq⟩
        have K0_f := Go.Lib.hid (blk_keep K0_wr.out hq)
        have B_f := Go.Lib.hid (B_wr.out.trans (hq.mono B_wr.out.size))
        have HKL := Go.Lib.hid (blk_lt K0_wr.out)
        have HOW := Go.Lib.hid hown
        have HREL := Go.Lib.hid hrel
        obtain ⟨xa, xc, rfl, -⟩ := OwnN.form hown
        clear hown hrel hq
        have z0 := cell_of_block (i := 0) K0_f.out (v := .int .i64 0) rfl
        have f0 := free_of_block (i := 0) K0_f.out
        have z1 := cell_of_block (i := 1) K0_f.out (v := .slice none 0 0) rfl
        have f1 := free_of_block (i := 1) K0_f.out
        have z2 := cell_of_block (i := 2) K0_f.out (v := .int .i64 0) rfl
        have f2 := free_of_block (i := 2) K0_f.out
        go_wp2_with fail
        refine bodyPost_ret (v := .tuple #[.agg #[.int .i64 V, .slice xa ms.length xc, .int .i64 R], .bool bb]) (results_cell_q (p := 4) (q := 5) rfl _ _ (w.heap.size) 25 _ (0, 0) _ rfl rfl (heap_setCell_same _ _ 2 _ _ _ (heap_setCell_same _ _ 1 _ _ _ (heap_setCell_same _ _ 0 _ _ _ K0_f.out))) Tryd.underlying25 rfl (by kernel_rfl)) rfl ⟨_, _, _, _, ms, rfl, ?_, .inl ⟨HP.out, HREL.out.congr (fun c h0 h1 => tabF_TBf h0 (by have := HTL.out; omega))⟩, ?_⟩
        · exact OwnN.mono (OwnN.block HOW.out (fun y h1 _ _ => by have h2 := HKL.out; rw [heap_setCell_other _ _ _ _ (by show y ≠ w.heap.size; omega), heap_setCell_other _ _ _ _ (by show y ≠ w.heap.size; omega), heap_setCell_other _ _ _ _ (by show y ≠ w.heap.size; omega)])) B_wr.out.size
        · exact (((B_f.out).setCell (p := ⟨w.heap.size, 0, none⟩) (Nat.le_refl _) _).setCell (p := ⟨w.heap.size, 1, none⟩) (Nat.le_refl _) _).setCell (p := ⟨w.heap.size, 2, none⟩) (Nat.le_refl _) _
end Go.Proofs.YthdofdglbdfkkaaDoor
