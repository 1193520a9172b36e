/-
  BddCodes: both sides.
-/
import Derived.Test.YthdofdglbdfkkaaDoorRows
import Derived.Test.YthdofdglbdfkkaaDoorPaA
import Derived.Test.YthdofdglbdfkkaaDoorG0
import Derived.Test.YthdofdglbdfkkaaDoorBdM
import Derived.Test.YthdofdglbdfkkaaDoorBdI
import Derived.Test.YthdofdglbdfkkaaDoorBdJ
import Derived.Test.YthdofdglbdfkkaaDoorBdK
import Derived.Test.YthdofdglbdfkkaaDoorBdL
import Derived.Test.YthdofdglbdfkkaaDoorBdS
import Derived.Test.YthdofdglbdfkkaaDoorBdT
import Derived.Test.YthdofdglbdfkkaaDoorBdE
import Derived.Test.YthdofdglbdfkkaaDoorBdP
import Derived.Test.YthdofdglbdfkkaaDoorBdQ
import Derived.Test.YthdofdglbdfkkaaDoorBdR
import Derived.Test.YthdofdglbdfkkaaDoorBdV
import Derived.WalkKit
import Derived.ProofKit
import Derived.OpenShut
import Derived.WalkSpells
import Derived.WalkLawsBesides
import Derived.Outline
import Derived.BigQuiet
import Derived.Handy
import Derived.LoopTactic
import Derived.Deep.Light
import Derived.Deep.RegionWith
import Derived.Deep.RegionHeld3
import Derived.Deep.DeepCutAuto
import Derived.Lib.Hide
import Derived.Maps.OwnRows
import Derived.Deep.Onto
import Derived.OneCell
import Derived.StillTailTactics
import Derived.Deep.AppendLies
import Derived.Deep.RegionLaw
namespace Go.Proofs.YthdofdglbdfkkaaDoor
open Go.ChangeShapes Go.WideShapes Go.ChangeAt Go.RowKit Go.Maps Go.ChangeMaps
set_option linter.unusedVariables false
set_option maxRecDepth 100000


/-- A list of one's own beside the parameter's box has grown by one. -/
theorem box_app2 {vars root : Int} {a : Option Addr} {len cap : Nat} {w w2 w4 : World} {o : Obj} {cv v' : Value} {zs : List Int} {m : Int} (hX : BBox vars a len cap root w w2) (ho : w2.ownsInts (w.heap.size + 1) 3 .i64 cv zs)
    (hg : (w2.alloc o).grownBy w4 cv.ownBlock) (hown : w4.ownsRow (w.heap.size + 1) 3 1 v' (zs.length + 1) (zs.map (Value.int .i64) ++ [.int .i64 m])) (hm : fits m) :
    w4.ownsInts (w.heap.size + 1) 3 .i64 v' (zs ++ [m]) ∧ BBox vars a len cap root w w4 := by
  have hlt := hX.lt
  have hv : ∀ x, cv.ownBlock = some x → w.heap.size + 1 ≤ x := fun x hx => (ho.1.lt x hx).1
  refine ⟨ho.appended hown hm, ⟨?_, ?_⟩⟩
  · exact ((hg.block _ (Nat.lt_trans hlt (alloc_ltS w2 o)) (fun e => by have := hv _ e.symm; omega)).trans (Below.heap_alloc w2 _ _ hlt)).trans hX.blk
  · have hb2 : Below w.heap.size w (w2.alloc o) := Below.alloc hX.bel hX.bel.size _
    exact hb2.grown hg (Nat.le_trans hX.bel.size (Nat.le_of_lt (alloc_ltS w2 o))) (fun x hx => by have := hv x hx; omega)
theorem own_mono {w : World} {base base' : Nat} {v : Value} {zs : List Int} (h : w.ownsInts base 3 .i64 v zs) (hb : base' ≤ base) : w.ownsInts base' 3 .i64 v zs := ⟨h.1.mono hb, h.2⟩
/-- All numbers of a diagram, and whether they are told. -/
def CodesR (vars : Int) (ns : List BN) (root : Int) (zs : List Int) (b : Bool) : Prop :=
  (¬ OkB vars ns root ∧ zs = [] ∧ b = false) ∨ (OkB vars ns root ∧ 256 < cntP vars ns root ∧ zs = [] ∧ b = false) ∨ (OkB vars ns root ∧ cntP vars ns root ≤ 256 ∧ zs = cds ns root (2 ^ vars.toNat) ∧ b = true)
theorem CodesR.inj {vars : Int} {ns : List BN} {root : Int} {zs zs' : List Int} {b b' : Bool} (h : CodesR vars ns root zs b) (k : CodesR vars ns root zs' b') : zs = zs' ∧ b = b' := by
  rcases h with ⟨h1, h2, h3⟩ | ⟨h1, h2, h3, h4⟩ | ⟨h1, h2, h3, h4⟩ <;> rcases k with ⟨k1, k2, k3⟩ | ⟨k1, k2, k3, k4⟩ | ⟨k1, k2, k3, k4⟩
  · exact ⟨by rw [h2, k2], by rw [h3, k3]⟩
  · exact absurd k1 h1
  · exact absurd k1 h1
  · exact absurd h1 k1
  · exact ⟨by rw [h3, k3], by rw [h4, k4]⟩
  · omega
  · exact absurd h1 k1
  · omega
  · exact ⟨by rw [h3, k3], by rw [h4, k4]⟩
theorem CodesR.len {vars : Int} {ns : List BN} {root : Int} {zs : List Int} {b : Bool} (h : CodesR vars ns root zs b) : zs.length ≤ 256 := by
  rcases h with ⟨h1, h2, h3⟩ | ⟨h1, h2, h3, h4⟩ | ⟨h1, h2, h3, h4⟩
  · rw [h2]; decide
  · rw [h3]; decide
  · have := cds_len ns root (2 ^ vars.toNat)
    rw [h3]
    unfold cntP at h2
    omega
def CodesQ (vars : Int) (ns : List BN) (root : Int) (w : World) (e : Ending) (w' : World) : Prop := ∃ v zs b, e = .returned (.tuple #[v, .bool b]) ∧ w'.ownsInts w.heap.size 3 .i64 v zs ∧ CodesR vars ns root zs b ∧ Below w.heap.size w w'

set_option maxHeartbeats 8000000 in
theorem c_BddCodesI {B : Nat} {a : Option Addr} {len cap : Nat} {ns : List BN} (vars root : Int) (w : World) (hBw : B ≤ w.heap.size) (h : BnsAt B w a len cap ns) :
    Calls Tryd.prog 24 #[.agg #[.int .i64 vars, .slice a len cap, .int .i64 root]] w (CodesQ vars ns root w) := by
  have HN := Go.Lib.hid h
  clear h
  obtain ⟨i1, hi1, hz01, hz11, hz21⟩ := info_parts intInfo
  have HI1 := Go.Lib.hid hi1
  have HZ01 := Go.Lib.hid hz01
  have HZ11 := Go.Lib.hid hz11
  have HZ21 := Go.Lib.hid hz21
  clear hi1 hz01 hz11 hz21
  go_enter Tryd.func24, Tryd.ntmps24
  go_upto_region 1 with fail
  refine code_gen (R := fun wb => BBox vars a len cap root w wb) (BBox.new _ _ _ _ _ _) ?_
  intro w0 hbox
  have HX0 := Go.Lib.hid hbox
  obtain ⟨x0, x1, x2⟩ := hbox.cells
  have HN0 := Go.Lib.hid (HN.out.below (hbox.bel.mono hBw))
  have hB0 : B ≤ w0.heap.size := Nat.le_trans hBw hbox.bel.size
  clear hbox
  go_wp2_with fail
  refine (c_BddOkI (B := B) vars root w0 hB0 HN0.out).mono ?_
  rintro e w1 ⟨hb, hq⟩
  have HX1 := Go.Lib.hid (HX0.out.below hq)
  have HN1 := Go.Lib.hid (HN0.out.below (hq.mono hB0))
  have hB1 : B ≤ w1.heap.size := Nat.le_trans hB0 hq.size
  clear hq x0 x1 x2
  obtain ⟨x0, x1, x2⟩ := HX1.out.cells
  by_cases ho : OkB vars ns root
  rotate_left
  · obtain rfl := boolIs_f ho hb
    have HO := Go.Lib.hid ho
    clear ho hb
    go_wp2_with fail
    go_ret2
    exact ⟨_, [], _, rfl, World.ownsInts_nil _ _ _ _, .inl ⟨HO.out, rfl, rfl⟩, HX1.out.bel⟩
  obtain rfl := boolIs_t ho hb
  have HO := Go.Lib.hid ho
  clear ho hb
  have HC0 := Go.Lib.hid (c_bddCount (B := B) vars root w1 hB1 HN1.out HO.out)
  have HL := Go.Lib.hid (count_of HO.out)
  go_wp2_with fail
  refine HC0.out.mono ?_
  rintro e w2 ⟨rfl, hq⟩
  rw [HL.out]
  obtain ⟨c, hc⟩ : ∃ c, cntP vars ns root = c := ⟨_, rfl⟩
  rw [hc]
  have HX2 := Go.Lib.hid (HX1.out.below hq)
  have HN2 := Go.Lib.hid (HN1.out.below (hq.mono hB1))
  have hB2 : B ≤ w2.heap.size := Nat.le_trans hB1 hq.size
  clear hq x0 x1 x2
  obtain ⟨x0, x1, x2⟩ := HX2.out.cells
  by_cases hc6 : 256 < c
  · have HCN := Go.Lib.hid (show 256 < cntP vars ns root by rw [hc]; exact hc6)
    clear hc
    go_wp2_with fail
    go_ret2
    exact ⟨_, [], _, rfl, World.ownsInts_nil _ _ _ _, .inr (.inl ⟨HO.out, HCN.out, rfl, rfl⟩), HX2.out.bel⟩
  have HCN := Go.Lib.hid (show cntP vars ns root ≤ 256 by omega)
  clear hc
  have hv0 := HO.out.hv.1
  have hv1 := HO.out.hv.2
  have HRL := Go.Lib.hid (show root < (ns.length : Int) + 2 by have := HO.out.hr.2; omega)
  have hw := wrap_p2 (n := vars) (by omega)
  have h16 := p2_le (n := vars) (by omega)
  go_wp2_with fail
  have HW := Go.Lib.hid hw
  clear hw
  go_loopw [4, 17] (fun s i wr => ∃ k : Nat, (k : Int) ≤ 2 ^ vars.toNat ∧ i = .int .i64 k ∧ wr.ownsInts (w.heap.size + 1) 3 .i64 s (cds ns root k) ∧ (cds ns root k).length ≤ k ∧ BBox vars a len cap root w wr) (fun _ i _ => (2 ^ vars.toNat - intOf i).toNat)
  case atStart => exact ⟨0, by have := p2_pos vars.toNat; omega, rfl, World.ownsInts_nil _ _ _ _, by simp [cds], HX2.out⟩
  case round =>
    obtain ⟨k, hk, rfl, hown, hcl, hbox⟩ := hrel
    have HOW := Go.Lib.hid hown
    have HX := Go.Lib.hid hbox
    clear hown hbox x0 x1 x2
    obtain ⟨x0, x1, x2⟩ := HX.out.cells
    by_cases hkl : (k : Int) < wrap64 (2 ^ vars.toNat)
    · have hkl2 : (k : Int) < 2 ^ vars.toNat := by rw [HW.out] at hkl; exact hkl
      have HC := Go.Lib.hid (c_bddHas (B := B) vars root k wr (Nat.le_trans hBw HX.out.bel.size) (HN.out.below (HX.out.bel.mono hBw)) HO.out (by omega))
      go_wp2_with fail
      refine HC.out.mono ?_
      rintro e wc ⟨⟨r, rfl, hr⟩, hq⟩
      have HXc := Go.Lib.hid (HX.out.below hq)
      have HOWc := Go.Lib.hid (ownI_below HOW.out hq)
      have hwc : w.heap.size < wc.heap.size := HXc.out.lt
      clear hq x0 x1 x2
      cases r with
      | true =>
        have HE := Go.Lib.hid (cds_yes HO.out.fine HRL.out (hr.1 rfl))
        clear hr
        go_wp2_with (first | (at_builtin; go_loud (refine wpList_append_own_at _ rfl _ _ 43 rfl (w.heap.size + 1) 3 i1 (.int .i64 0) 1 8 Tryd.underlying43 HI1.out HZ01.out HZ11.out HZ21.out rfl (by decide) _ _ _ rfl (HOWc.out.1.alloc _) ⟨wc.heap.size, 0, none⟩ 1 1 [.int .i64 (k : Int)] rfl rfl (cell_one_new _ _ _) (ints_oneCell .i64 [(k : Int)]) (by unfold maxLen; omega) (by omega) (by simp; omega) ?_; intro v' w4 hown' hgrow' hnil hloc); have HQ := Go.Lib.hid (box_app2 HXc.out HOWc.out hgrow' hown' (WalkArith.wf_i64 (by omega))); clear hown' hgrow' hnil hloc) | go_in)
        go_roundw
        case rel => exact ⟨k + 1, by omega, by go_num, by rw [HE.out]; exact HQ.out.1, by rw [HE.out, List.length_append]; show _ + 1 ≤ _; omega, HQ.out.2⟩
        case measure => simp [intOf] <;> omega
      | false =>
        have HE := Go.Lib.hid (cds_no HO.out.fine HRL.out (show ¬ HasP ns root k from fun h => by have := hr.2 h; cases this))
        clear hr
        go_wp2_with fail
        go_roundw
        case rel => exact ⟨k + 1, by omega, by go_num, by rw [HE.out]; exact HOWc.out, by rw [HE.out]; omega, HXc.out⟩
        case measure => simp [intOf] <;> omega
    · have HK := Go.Lib.hid (show cds ns root k = cds ns root (2 ^ vars.toNat) by
        have hkl2 : ¬ (k : Int) < 2 ^ vars.toNat := by rw [HW.out] at hkl; exact hkl
        have hkn : k = 2 ^ vars.toNat := by have := p2_nat vars.toNat; omega
        rw [hkn])
      go_wp2_with fail
      go_ret2
      exact ⟨_, _, _, rfl, own_mono HOW.out (Nat.le_succ _), .inr (.inr ⟨HO.out, HCN.out, HK.out, rfl⟩), HX.out.bel⟩
end Go.Proofs.YthdofdglbdfkkaaDoor
