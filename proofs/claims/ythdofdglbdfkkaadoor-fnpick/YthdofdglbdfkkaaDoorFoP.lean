/-
  A node is put into a forest.
-/
import Derived.Test.YthdofdglbdfkkaaDoorRows
import Derived.Test.YthdofdglbdfkkaaDoorFoW
import Derived.WalkKit
import Derived.ProofKit
import Derived.OpenShut
import Derived.WalkSpells
import Derived.WalkLawsBesides
import Derived.Outline
import Derived.BigQuiet
import Derived.Handy
import Derived.LoopTactic
import Derived.Deep.Light
import Derived.Deep.RegionWith
import Derived.Deep.RegionHeld3
import Derived.Deep.DeepCutAuto
import Derived.Lib.Hide
import Derived.Maps.OwnRows
import Derived.Deep.Onto
import Derived.OneCell
import Derived.StillTailTactics
import Derived.Deep.AppendLies
import Derived.Deep.RegionLaw
namespace Go.Proofs.YthdofdglbdfkkaaDoor
open Go.ChangeShapes Go.WideShapes Go.ChangeAt Go.RowKit Go.Maps Go.ChangeMaps
set_option linter.unusedVariables false
set_option maxRecDepth 100000

def PutQ (vars : Int) (fb mb pb : Nat) (v : Value) (F : List BN) (np : Nat) (x lo hi : Int) (w : World) (e : Ending) (w' : World) : Prop :=
  ∃ p v' F', e = .returned (.int .i64 p) ∧ ForestAt vars fb mb pb v' F' np w' ∧ PutF vars x lo hi F F' p ∧ FStep fb mb pb v w v' w'
theorem fits_small {x : Int} (h0 : 0 ≤ x) (h1 : x ≤ 1000000000) : fits x := by
  exact WalkArith.wf_i64 (by omega)

theorem forest_far {w w4 : World} {o : Obj} {v : Value} {k : Nat} (hg : (w.drew.alloc o).grownBy w4 v.ownBlock) (hk : k < w.heap.size) (hn : v.ownBlock ≠ some k) : w4.heap[k]? = w.heap[k]? :=
  (hg.block k (Nat.lt_trans hk (alloc_ltS w.drew o)) (fun e => hn e.symm)).trans (Below.heap_alloc w.drew _ _ hk)

set_option maxHeartbeats 8000000 in
theorem c_put {vars : Int} {fb mb pb : Nat} {v : Value} {F : List BN} {np : Nat} (x lo hi : Int) (w : World) (h : ForestAt vars fb mb pb v F np w) (hvv : vars ≤ 13) (hx : 0 ≤ x ∧ x < vars) (hl : InF F lo) (hh : InF F hi) (hvl : x < vAt vars F lo) (hvh : x < vAt vars F hi) (hroom : F.length ≤ 1000000) :
    Calls Tryd.prog 48 #[.pointer (some ⟨fb, 0, none⟩), .int .i64 x, .int .i64 lo, .int .i64 hi] w (PutQ vars fb mb pb v F np x lo hi w) := by
  have HF := Go.Lib.hid h
  have hok : fits x ∧ fits lo ∧ fits hi := ⟨fits_small hx.1 (by omega), fits_small hl.1 (by have := hl.2; omega), fits_small hh.1 (by have := hh.2; omega)⟩
  obtain ⟨kl, hkl⟩ := keyOf_bn ⟨x, lo, hi⟩ hok
  have HOK := Go.Lib.hid hok
  have HKL := Go.Lib.hid hkl
  have HL := Go.Lib.hid hl
  have HH := Go.Lib.hid hh
  have HVL := Go.Lib.hid hvl
  have HVH := Go.Lib.hid hvh
  have HX := Go.Lib.hid hx
  obtain ⟨z, ok, hrun, hyes, hno⟩ := h.plc.look bnK mapNI hkl
  have HR := Go.Lib.hid hrun
  have hmw := h.lt (.inr (.inl rfl))
  obtain ⟨a, cap, rfl, -⟩ := h.bns
  obtain ⟨i1, hi1, hz01, hz11, hz21⟩ := info_parts bnInfo
  have HI1 := Go.Lib.hid hi1
  have HZ01 := Go.Lib.hid hz01
  have HZ11 := Go.Lib.hid hz11
  have HZ21 := Go.Lib.hid hz21
  clear hi1 hz01 hz11 hz21
  clear h hok hkl hl hh hvl hvh hx hrun
  by_cases hlh : lo = hi
  · subst hlh
    have HS := Go.Lib.hid (FStep.refl fb mb pb (.slice a F.length cap) w)
    clear hyes hno
    go_enter Tryd.func48, Tryd.ntmps48
    go_wp2_with fail
    go_ret
    exact ⟨_, _, _, rfl, HF.out, PutF.same HF.out.frs HL.out HVL.out, HS.out⟩
  · have hlb : (lo == hi) = false := by simp [hlh]
    have HLH := Go.Lib.hid hlh
    clear hlh
    cases ok with
    | true =>
      have HY := Go.Lib.hid (hyes rfl)
      clear hyes hno
      go_enter Tryd.func48, Tryd.ntmps48
      go_upto_region 4 with fail
      refine code_gen (R := fun wb => wb.heap[w.heap.size]? = some (.cells #[.int .i64 x, .int .i64 lo, .int .i64 hi] 67 (0, 0)) ∧ Below w.heap.size w wb) ⟨by first | exact (MapKept.heap_alloc _ _).1 | exact heap_alloc_new _ _, by go_grown⟩ ?_
      rintro w1 ⟨k1, hb1⟩
      have HF1 := Go.Lib.hid (HF.out.below hb1)
      have HS := Go.Lib.hid (fun n => FStep.of_below (fb := fb) (mb := mb) (pb := pb) (v := .slice a F.length cap) (show Below w.heap.size w (w1.drewN n) from ⟨hb1.os, hb1.tape, hb1.output, hb1.size, hb1.block⟩))
      have hm1 : w1.heap[mb]? = w.heap[mb]? := hb1.block _ hmw
      have hlk : ∀ n, (Instr.lookup 93 (.map (some mb)) (.agg #[.int .i64 x, .int .i64 lo, .int .i64 hi]) true).run Tryd.prog (w1.drewN n) = .ok (.tuple #[.int .i64 z, .bool true]) (w1.drewN n) := fun n => HR.out (w1.drewN n) hm1
      have f1 := cell_of_block (i := 1) HF1.out.blk (v := .map (some mb)) rfl
      have z0 := cell_of_block (i := 0) k1 (v := .int .i64 x) rfl
      have z1 := cell_of_block (i := 1) k1 (v := .int .i64 lo) rfl
      have z2 := cell_of_block (i := 2) k1 (v := .int .i64 hi) rfl
      clear k1 hb1
      go_quiet (fail)
      clear hlk
      go_wp2_with fail
      go_ret
      obtain ⟨k, h1, h2, h3⟩ := HY.out
      have h4 := bnAgg_inj (x := F.getD k default) (y := ⟨x, lo, hi⟩) (bnK.inj h2 HKL.out)
      exact ⟨_, _, _, rfl, HF1.out.keep (fun _ _ => rfl), by rw [h3]; exact PutF.found HF.out.frs h1 h4, HS.out _⟩
    | false =>
      have HN := Go.Lib.hid (hno rfl)
      clear hyes hno
      go_enter Tryd.func48, Tryd.ntmps48
      go_upto_region 4 with fail
      refine code_gen (R := fun wb => wb.heap[w.heap.size]? = some (.cells #[.int .i64 x, .int .i64 lo, .int .i64 hi] 67 (0, 0)) ∧ Below w.heap.size w wb) ⟨by first | exact (MapKept.heap_alloc _ _).1 | exact heap_alloc_new _ _, by go_grown⟩ ?_
      rintro w1 ⟨k1, hb1⟩
      have HF1 := Go.Lib.hid (HF.out.below hb1)
      have HB1 := Go.Lib.hid hb1
      have HK1 := Go.Lib.hid k1
      have hm1 : w1.heap[mb]? = w.heap[mb]? := hb1.block _ hmw
      have hlk : ∀ n, (Instr.lookup 93 (.map (some mb)) (.agg #[.int .i64 x, .int .i64 lo, .int .i64 hi]) true).run Tryd.prog (w1.drewN n) = .ok (.tuple #[.int .i64 z, .bool false]) (w1.drewN n) := fun n => HR.out (w1.drewN n) hm1
      have f0 := cell_of_block (i := 0) HF1.out.blk (v := .slice a F.length cap) rfl
      have f1 := cell_of_block (i := 1) HF1.out.blk (v := .map (some mb)) rfl
      have z0 := cell_of_block (i := 0) k1 (v := .int .i64 x) rfl
      have z1 := cell_of_block (i := 1) k1 (v := .int .i64 lo) rfl
      have z2 := cell_of_block (i := 2) k1 (v := .int .i64 hi) rfl
      clear k1 hb1
      go_quiet (fail)
      clear hlk
      go_upto_region 8 with fail
      refine code_gen (R := fun wb => wb.heap[w.heap.size]? = some (.cells #[.int .i64 x, .int .i64 lo, .int .i64 hi] 67 (0, 0)) ∧ ForestAt vars fb mb pb (.slice a F.length cap) F np wb ∧ Below w.heap.size w wb) ⟨HK1.out, HF1.out.keep (fun _ _ => rfl), ⟨HB1.out.os, HB1.out.tape, HB1.out.output, HB1.out.size, HB1.out.block⟩⟩ ?_
      clear f0 f1 z0 z1 z2 HF1 HB1 HK1 hm1 w1
      rintro w1 ⟨k1, hf1, hb1⟩
      have HF1 := Go.Lib.hid hf1
      have HB1 := Go.Lib.hid hb1
      have HK1 := Go.Lib.hid k1
      have f0 := cell_of_block (i := 0) hf1.blk (v := .slice a F.length cap) rfl
      have r0 := free_of_block (i := 0) hf1.blk
      have z0 := cell_of_block (i := 0) k1 (v := .int .i64 x) rfl
      have z1 := cell_of_block (i := 1) k1 (v := .int .i64 lo) rfl
      have z2 := cell_of_block (i := 2) k1 (v := .int .i64 hi) rfl
      have HFL := Go.Lib.hid (hf1.lt (.inl rfl))
      have HFN := Go.Lib.hid hf1.ne.2.2.1
      have HOW := Go.Lib.hid hf1.own.1
      have f0a : ∀ o, (w1.alloc o).cell? ⟨fb, 0, none⟩ = some (.slice a F.length cap) := fun o => keepc (show Below w1.heap.size w1 (w1.alloc o) by go_grown) (hf1.lt (.inl rfl)) f0
      clear k1 hf1 hb1
      go_region_law (first | (refine step_append_lies _ rfl (.tmp 42) (.tmp 44) 23 rfl 0 67 i1 (.agg #[.int .i64 0, .int .i64 0, .int .i64 0]) 3 24 Tryd.underlying23 HI1.out HZ01.out HZ11.out HZ21.out rfl (by decide) (.slice a F.length cap) F.length _ (by simp [Act.eval]) (by first | exact HOW.out.drew.alloc _ | exact HOW.out.alloc _ | exact (HOW.out.alloc _).drew) ⟨w1.heap.size, 0, none⟩ 1 1 [.int .i64 x, .int .i64 lo, .int .i64 hi] (by simp [Act.eval]) rfl (by first | exact bn_new ⟨x, lo, hi⟩ w1.drew | exact bn_new ⟨x, lo, hi⟩ w1) (bn_one ⟨x, lo, hi⟩) (by decide) (by unfold maxLen; omega) (by omega) (Nat.zero_le _) _ rfl ?_; intro g cap' w4 hown' hgrow' hat hlt4; have v4 := (World.cell?_of_block (w := w1) (w' := w4) (a := ⟨fb, 0, none⟩) (forest_far hgrow' HFL.out HFN.out)).trans f0; have r4 := (World.frozen?_of_block (w := w1) (w' := w4) (a := ⟨fb, 0, none⟩) (forest_far hgrow' HFL.out HFN.out)).trans r0))
      all_goals
        have HQ := Go.Lib.hid (forest_app (n := ⟨x, lo, hi⟩) (wd := w1.drew) HF1.out HOK.out rfl rfl rfl rfl hown' hgrow' hat)
        clear hown' hgrow' hat hlt4 v4 r4 f0 r0 z0 z1 z2 f0a
        go_upto_region 9 with fail
        refine code_gen (R := fun wb => wb.heap[w.heap.size]? = some (.cells #[.int .i64 x, .int .i64 lo, .int .i64 hi] 67 (0, 0)) ∧ ForestMid vars fb mb pb (.slice (some ⟨g, 0, none⟩) (F.length + 1) cap') F ⟨x, lo, hi⟩ np wb ∧ FStep fb mb pb (.slice a F.length cap) w (.slice (some ⟨g, 0, none⟩) (F.length + 1) cap') wb) ⟨?_, ?_, ?_⟩ ?_
        · exact (HQ.out.2.block _ (Array.getElem?_eq_some_iff.1 HK1.out).1 (fun hg => Nat.lt_irrefl _ (HF.out.lt hg))).trans HK1.out
        · exact HQ.out.1
        · exact (FStep.of_below HB1.out).trans HQ.out.2
        clear HQ HF1 HB1 HK1 HFL HOW
        rintro w2 ⟨k2, hm2, hs2⟩
        have HM2 := Go.Lib.hid hm2
        have HS2 := Go.Lib.hid hs2
        have f1 := cell_of_block (i := 1) hm2.blk (v := .map (some mb)) rfl
        have z0 := cell_of_block (i := 0) k2 (v := .int .i64 x) rfl
        have z1 := cell_of_block (i := 1) k2 (v := .int .i64 lo) rfl
        have z2 := cell_of_block (i := 2) k2 (v := .int .i64 hi) rfl
        clear k2 hm2 hs2
        obtain ⟨w3, hrun3, hm3, hg3⟩ := IntMap.store (w := w2.drew) (HM2.out.plc.of_block rfl) bnK mapNI (by unfold maxLen; omega) HKL.out (z := (F.length : Int) + 2) (fits_small (by omega) (by omega))
        have HM3 := Go.Lib.hid hm3
        have HG3 := Go.Lib.hid (show w2.grownBy w3 (some mb) from ⟨hg3.os, hg3.tape, hg3.output, hg3.size, hg3.block⟩)
        clear hm3 hg3
        go_region_law (fail)
        all_goals
          clear hrun3 f1 z0 z1 z2
          go_wp2_with fail
          go_ret
          have hfr : PutF vars x lo hi F (F ++ [⟨x, lo, hi⟩]) ((F.length : Int) + 2) := PutF.fresh HF.out.frs HX.out HL.out HH.out HLH.out HVL.out HVH.out (fun j hj e => HN.out _ ⟨j, hj, by rw [e]; exact HKL.out, rfl⟩)
          have hfp := forest_put HM2.out HF.out.frs hfr.frs HKL.out HN.out HM3.out HG3.out
          exact ⟨_, _, _, rfl, hfp.1, hfr, HS2.out.trans hfp.2⟩
end Go.Proofs.YthdofdglbdfkkaaDoor
