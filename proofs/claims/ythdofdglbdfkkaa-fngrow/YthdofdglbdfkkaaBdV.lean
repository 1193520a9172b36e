/-
  BddCount: both sides.
-/
import Derived.Test.YthdofdglbdfkkaaRows
import Derived.Test.YthdofdglbdfkkaaPaA
import Derived.Test.YthdofdglbdfkkaaG0
import Derived.Test.YthdofdglbdfkkaaBdM
import Derived.Test.YthdofdglbdfkkaaBdI
import Derived.Test.YthdofdglbdfkkaaBdJ
import Derived.Test.YthdofdglbdfkkaaBdK
import Derived.Test.YthdofdglbdfkkaaBdL
import Derived.Test.YthdofdglbdfkkaaBdS
import Derived.Test.YthdofdglbdfkkaaBdT
import Derived.Test.YthdofdglbdfkkaaBdE
import Derived.Test.YthdofdglbdfkkaaBdP
import Derived.Test.YthdofdglbdfkkaaBdQ
import Derived.Test.YthdofdglbdfkkaaBdR
import Derived.WalkKit
import Derived.ProofKit
import Derived.OpenShut
import Derived.WalkSpells
import Derived.WalkLawsBesides
import Derived.Outline
import Derived.BigQuiet
import Derived.Handy
import Derived.LoopTactic
import Derived.Deep.Light
import Derived.Deep.RegionWith
import Derived.Deep.RegionHeld3
import Derived.Deep.DeepCutAuto
import Derived.Lib.Hide
import Derived.Maps.OwnRows
import Derived.Deep.Onto
import Derived.OneCell
import Derived.StillTailTactics
import Derived.Deep.AppendLies
import Derived.Deep.RegionLaw
namespace Go.Proofs.Ythdofdglbdfkkaa
open Go.ChangeShapes Go.WideShapes Go.ChangeAt Go.RowKit Go.Maps Go.ChangeMaps
set_option linter.unusedVariables false
set_option maxRecDepth 100000


theorem quo_two (z : Int) (h0 : 0 ≤ z) (h1 : z ≤ 131072) : IntKind.i64.wrap (z.tdiv 2) = z.tdiv 2 := IntWalk.i64_in _ (by rw [Int.tdiv_eq_ediv_of_nonneg h0]; omega)
def CountQ (vars : Int) (ns : List BN) (root : Int) (w : World) (e : Ending) (w' : World) : Prop := ∃ r, e = .returned (.int .i64 r) ∧ CountR vars ns root r ∧ Below w.heap.size w w'
theorem cts_bound {vars : Int} {ns : List BN} (hf : ∀ k : Nat, k < ns.length → nFine vars ns k) (k : Nat) (hk : k ≤ ns.length) (p : Nat) (hp : p < k + 2) : 0 ≤ (cts vars ns k).getD p 0 ∧ (cts vars ns k).getD p 0 ≤ 2 ^ vars.toNat := by
  rw [cts_all hf k hk p hp]; exact cntP_bound _ _ _
set_option maxHeartbeats 8000000 in
theorem c_bddCount {B : Nat} {a : Option Addr} {len cap : Nat} {ns : List BN} (vars root : Int) (w : World) (hBw : B ≤ w.heap.size) (h : BnsAt B w a len cap ns) (hok : OkB vars ns root) :
    Calls Try.prog 24 #[.agg #[.int .i64 vars, .slice a len cap, .int .i64 root]] w fun e w' => e = .returned (.int .i64 ((cts vars ns ns.length).getD root.toNat 0)) ∧ Below w.heap.size w w' := by
  have HN := Go.Lib.hid h
  have hnl : ns.length = len := h.1
  have HNL := Go.Lib.hid hnl
  have HO := Go.Lib.hid hok
  have hv0 := hok.hv.1
  have hv1 := hok.hv.2
  have hr0 := hok.hr.1
  have hr1 : root ≤ (len : Int) + 1 := by have := hok.hr.2; omega
  have hl6 : len ≤ 600 := by have := hok.len; omega
  obtain ⟨rt, rfl⟩ : ∃ rt : Nat, root = rt := ⟨root.toNat, by omega⟩
  clear h hnl hok
  obtain ⟨i1, hi1, hz01, hz11, hz21⟩ := info_parts intInfo
  have HI1 := Go.Lib.hid hi1
  have HZ01 := Go.Lib.hid hz01
  have HZ11 := Go.Lib.hid hz11
  have HZ21 := Go.Lib.hid hz21
  clear hi1 hz01 hz11 hz21
  have hw := wrap_p2 (n := vars) (by omega)
  have h16 := p2_le (n := vars) (by omega)
  have hp2 := p2_pos vars.toNat
  go_enter Try.func24, Try.ntmps24
  go_upto_region 1 with fail
  refine code_gen (R := fun wb => BBox vars a len cap (rt : Int) w wb) (BBox.new _ _ _ _ _ _) ?_
  intro w0 hbox
  have HX0 := Go.Lib.hid hbox
  obtain ⟨x0, x1, x2⟩ := hbox.cells
  have hw0 : w.heap.size < w0.heap.size := hbox.lt
  clear hbox
  go_upto_region 2 with fail
  refine code_gen (R := fun wb => BBox vars a len cap (rt : Int) w wb ∧ wb.ownsInts (w.heap.size + 1) 3 .i64 (.slice (some ⟨w0.heap.size, 0, none⟩) 2 2) (cts vars ns 0)) ⟨HX0.out.below (by go_grown), ⟨rfl, .inr ⟨w0.heap.size, 2, _, rfl, hw0, by first | exact (MapKept.heap_alloc _ _).1 | exact heap_alloc_new _ _, Nat.le_refl _, by decide, rfl, rfl⟩⟩, fun z hz => by
    simp only [cts, List.mem_cons, List.not_mem_nil, or_false] at hz
    rcases hz with rfl | rfl
    · exact WalkArith.wf_i64 (by omega)
    · exact WalkArith.wf_i64 (by omega)⟩ ?_
  rintro w1 ⟨hbox, hown⟩
  have HX1 := Go.Lib.hid hbox
  have HO1 := Go.Lib.hid hown
  clear hbox hown x0 x1 x2
  obtain ⟨g0, hg0⟩ : ∃ g, w0.heap.size = g := ⟨_, rfl⟩
  rw [hg0] at HO1 ⊢
  clear hg0
  obtain ⟨x0, x1, x2⟩ := HX1.out.cells
  go_wp2_with fail
  go_loopw [3, 13] (fun s i wr => ∃ (k : Nat) (sa : Option Addr) (sc : Nat), k ≤ len ∧ i = .int .i64 k ∧ s = .slice sa (k + 2) sc ∧ wr.ownsInts (w.heap.size + 1) 3 .i64 (.slice sa (k + 2) sc) (cts vars ns k) ∧ BBox vars a len cap (rt : Int) w wr) (fun _ i _ => len - (intOf i).toNat)
  case atStart => exact ⟨0, some ⟨g0, 0, none⟩, 2, by omega, rfl, rfl, HO1.out, HX1.out⟩
  case round =>
    obtain ⟨k, sa, sc, hk, rfl, rfl, hown, hbox⟩ := hrel
    have HOW := Go.Lib.hid hown
    have HX := Go.Lib.hid hbox
    clear hown hbox x0 x1 x2
    obtain ⟨x0, x1, x2⟩ := HX.out.cells
    by_cases hkl : k < len
    · have hki : (k : Int) < len := by omega
      obtain ⟨⟨xv, xl, xh⟩, b, off, hx, -, rfl, hbB, c0, c1, c2⟩ := bn_at (HN.out.below (HX.out.bel.mono hBw)) hkl
      simp only at c0 c1 c2
      have hfx := HO.out.fine k (by have := HNL.out; omega)
      unfold nFine at hfx
      rw [← hx] at hfx
      obtain ⟨⟨f0, f1⟩, -, ⟨f3, f4⟩, ⟨f5, f6⟩, -, -⟩ := hfx
      simp only at f0 f1 f3 f4 f5 f6
      obtain ⟨pl, rfl⟩ : ∃ p : Nat, xl = p := ⟨xl.toNat, by omega⟩
      obtain ⟨ph, rfl⟩ : ∃ p : Nat, xh = p := ⟨xh.toNat, by omega⟩
      have HXX := Go.Lib.hid hx
      have HLN := Go.Lib.hid (show cts vars ns (k + 1) = cts vars ns k ++ [((cts vars ns k).getD pl 0 + (cts vars ns k).getD ph 0).tdiv 2] by
        rw [cts, ← hx]; simp only [Int.toNat_natCast])
      have hL1 := cts_bound HO.out.fine k (by have := HNL.out; omega) pl (by omega)
      have hL2 := cts_bound HO.out.fine k (by have := HNL.out; omega) ph (by omega)
      have HLEN := Go.Lib.hid (cts_len vars ns k)
      clear hx
      go_upto_region 5 with fail
      refine code_gen (R := fun wb => wb.heap[wr.heap.size]? = some (.cells #[.int .i64 xv, .int .i64 pl, .int .i64 ph] 45 (0, 0)) ∧ Below wr.heap.size wr wb) ⟨by first | exact (MapKept.heap_alloc _ _).1 | exact heap_alloc_new _ _, by go_grown⟩ ?_
      rintro w2 ⟨k2, hb2⟩
      have HX2 := Go.Lib.hid (HX.out.below hb2)
      have HO2 := Go.Lib.hid (ownI_below HOW.out hb2)
      have hw2 : w.heap.size < w2.heap.size := HX2.out.lt
      have y0 := cell_of_block (i := 0) k2 (v := .int .i64 xv) rfl
      have y1 := cell_of_block (i := 1) k2 (v := .int .i64 pl) rfl
      have y2 := cell_of_block (i := 2) k2 (v := .int .i64 ph) rfl
      clear c0 c1 c2 k2 hb2 x0 x1 x2
      obtain ⟨z1, b3, o3, hz1, -, rfl, hbB3, u1⟩ := int_at (own_ints HO2.out HLEN.out.symm) (show pl < k + 2 by omega)
      obtain ⟨z2, b4, o4, hz2, -, e4, -, u2⟩ := int_at (own_ints HO2.out HLEN.out.symm) (show ph < k + 2 by omega)
      simp only [Option.some.injEq, Addr.mk.injEq, and_true] at e4
      obtain ⟨rfl, rfl⟩ := e4
      rw [hz1, hz2] at HLN
      rw [hz1] at hL1
      rw [hz2] at hL2
      have a1 := hL1.1
      have a2 := hL1.2
      have a3 := hL2.1
      have a4 := hL2.2
      have hpi : (pl : Int) < (k : Int) + 2 := by omega
      have hphi : (ph : Int) < (k : Int) + 2 := by omega
      clear hz1 hz2 hL1 hL2 hw
      have HOJ := Go.Lib.hid (show w2.ownsRow (w.heap.size + 1) 3 1 (.slice (some ⟨b3, o3, none⟩) (k + 2) sc) (k + 2) ((cts vars ns k).map (Value.int .i64)) from by have h1 := HO2.out.1; rw [HLEN.out] at h1; exact h1)
      have hs1 : IntKind.i64.wrap (z1 + z2) = z1 + z2 := add_in' _ _ a1 (Int.le_trans a2 h16) a3 (Int.le_trans a4 h16)
      have hs2 : wrap64 (z1 + z2) = z1 + z2 := add_in _ _ a1 (Int.le_trans a2 h16) a3 (Int.le_trans a4 h16)
      have hq1 : IntKind.i64.wrap ((z1 + z2).tdiv 2) = (z1 + z2).tdiv 2 := quo_two _ (by omega) (by omega)
      obtain ⟨m, hm⟩ : ∃ m, (z1 + z2).tdiv 2 = m := ⟨_, rfl⟩
      have HM := Go.Lib.hid hm
      have hmb : 0 ≤ m ∧ m ≤ 65536 := by rw [← hm, Int.tdiv_eq_ediv_of_nonneg (by omega)]; omega
      have HMB := Go.Lib.hid hmb
      rw [hm] at hq1
      clear hmb
      go_region_law (first | (refine step_append_lies _ rfl (.tmp 17) (.tmp 30) 50 rfl (w.heap.size + 1) 3 i1 (.int .i64 0) 1 8 Try.underlying50 HI1.out HZ01.out HZ11.out HZ21.out rfl (by decide) (.slice (some ⟨b3, o3, none⟩) (k + 2) sc) (k + 2) _ (by simp [Act.eval]) (HOJ.out.drew.alloc _) ⟨w2.heap.size, 0, none⟩ 1 1 [.int .i64 m] (by simp [Act.eval]) rfl (cell_one_new w2.drew _ _) (ints_oneCell .i64 [_]) (by decide) (by unfold maxLen; omega) (by omega) (by simp; omega) _ rfl ?_; intro g cap' w4 hown' hgrow' hat hlt4))
      all_goals
        have HQ := Go.Lib.hid (box_app HX2.out HO2.out HLEN.out hgrow' hown' (WalkArith.wf_i64 (by have := HMB.out; omega)))
        rw [← HM.out] at HQ
        rw [← HLN.out] at HQ
        clear hown' hgrow' hat hlt4 u1 u2 y0 y1 y2
        go_wp2_with fail
        go_roundw
        case rel => exact ⟨k + 1, some ⟨g, 0, none⟩, cap', by omega, by go_num, rfl, HQ.out.1, HQ.out.2⟩
        case measure => simp [intOf] <;> omega
    · have hki : ¬ (k : Int) < len := by omega
      obtain rfl : k = len := by omega
      obtain ⟨z1, b3, o3, hz1, -, rfl, hbB3, u1⟩ := int_at (own_ints HOW.out (cts_len vars ns k).symm) (show rt < k + 2 by omega)
      have HZ1 := Go.Lib.hid (show z1 = (cts vars ns ns.length).getD ((rt : Int)).toNat 0 by rw [HNL.out, Int.toNat_natCast]; exact hz1.symm)
      clear hz1
      have hrt : (rt : Int) < ((k + 2 : Nat) : Int) := by omega
      go_wp2_with fail
      go_ret
      exact ⟨ret_int HZ1.out, HX.out.bel⟩

set_option maxHeartbeats 8000000 in
theorem c_BddCountI {B : Nat} {a : Option Addr} {len cap : Nat} {ns : List BN} (vars root : Int) (w : World) (hBw : B ≤ w.heap.size) (h : BnsAt B w a len cap ns) :
    Calls Try.prog 9 #[.agg #[.int .i64 vars, .slice a len cap, .int .i64 root]] w (CountQ vars ns root w) := by
  have HN := Go.Lib.hid h
  clear h
  go_enter Try.func9, Try.ntmps9
  go_upto_region 1 with fail
  refine code_gen (R := fun wb => BBox vars a len cap root w wb) (BBox.new _ _ _ _ _ _) ?_
  intro w0 hbox
  have HX0 := Go.Lib.hid hbox
  obtain ⟨x0, x1, x2⟩ := hbox.cells
  have HN0 := Go.Lib.hid (HN.out.below (hbox.bel.mono hBw))
  have hB0 : B ≤ w0.heap.size := Nat.le_trans hBw hbox.bel.size
  clear hbox
  go_wp2_with fail
  refine (c_BddOkI (B := B) vars root w0 hB0 HN0.out).mono ?_
  rintro e w1 ⟨hb, hq⟩
  have HX1 := Go.Lib.hid (HX0.out.below hq)
  have HN1 := Go.Lib.hid (HN0.out.below (hq.mono hB0))
  have hB1 : B ≤ w1.heap.size := Nat.le_trans hB0 hq.size
  clear hq x0 x1 x2
  obtain ⟨x0, x1, x2⟩ := HX1.out.cells
  by_cases ho : OkB vars ns root
  rotate_left
  · obtain rfl := boolIs_f ho hb
    have HO := Go.Lib.hid ho
    clear ho hb
    go_wp2_with fail
    go_ret
    exact ⟨_, rfl, .inl ⟨HO.out, rfl⟩, HX1.out.bel⟩
  obtain rfl := boolIs_t ho hb
  have HO := Go.Lib.hid ho
  clear ho hb
  have HC := Go.Lib.hid (c_bddCount (B := B) vars root w1 hB1 HN1.out HO.out)
  go_wp2_with fail
  refine HC.out.mono ?_
  rintro e w2 ⟨rfl, hq⟩
  have HE := Go.Lib.hid (HX1.out.bel.trans (hq.mono HX1.out.bel.size))
  clear hq x0 x1 x2
  have HL := Go.Lib.hid (count_of HO.out)
  obtain ⟨z, hz⟩ : ∃ z, (cts vars ns ns.length).getD root.toNat 0 = z := ⟨_, rfl⟩
  rw [hz] at HL ⊢
  clear hz
  go_wp2_with fail
  go_ret
  exact ⟨_, rfl, .inr ⟨HO.out, HL.out⟩, HE.out⟩
end Go.Proofs.Ythdofdglbdfkkaa
