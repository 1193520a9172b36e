/-
  The nodes stand where they are done: the program.
-/
import Derived.Test.YthdofdglbdfkkaaDoorRows
import Derived.Test.YthdofdglbdfkkaaDoorG0
import Derived.Test.YthdofdglbdfkkaaDoorBdM
import Derived.Test.YthdofdglbdfkkaaDoorBdI
import Derived.WalkKit
import Derived.ProofKit
import Derived.OpenShut
import Derived.WalkSpells
import Derived.WalkLawsBesides
import Derived.Outline
import Derived.BigQuiet
import Derived.Handy
import Derived.LoopTactic
import Derived.Deep.Light
import Derived.Deep.RegionWith
import Derived.Deep.RegionHeld3
import Derived.Deep.DeepCutAuto
import Derived.Lib.Hide
import Derived.Maps.OwnRows
import Derived.Deep.Onto
import Derived.OneCell
import Derived.StillTailTactics
import Derived.Deep.AppendLies
import Derived.Deep.RegionLaw
namespace Go.Proofs.YthdofdglbdfkkaaDoor
open Go.ChangeShapes Go.WideShapes Go.ChangeAt Go.RowKit Go.Maps Go.ChangeMaps
set_option linter.unusedVariables false
set_option maxRecDepth 100000


set_option maxHeartbeats 8000000 in
theorem c_doneFrom {B : Nat} {a : Option Addr} {len cap : Nat} {ns : List BN} (w : World) (h : BnsAt B w a len cap ns) (hl : len ≤ 600) (hA : Ahead ns) : ∀ (f : Nat) (p d : Int), 0 ≤ p → p ≤ f → p < (len : Int) + 2 → 0 ≤ d → d ≤ 1000 →
    Calls Tryd.prog 92 #[.slice a len cap, .int .i64 p, .int .i64 d] w fun e w' => e = .returned (.tuple #[.int .i64 (dn ns f p d).1, .bool (dn ns f p d).2]) ∧ w = w' := by
  have HN := Go.Lib.hid h
  have HA := Go.Lib.hid hA
  have hnl : ns.length = len := h.1
  have HNL := Go.Lib.hid hnl
  clear h hA hnl
  intro f
  induction f with
  | zero =>
    intro p d h0 hp hl2 hd0 hd1
    have hpd : p - 2 < d := by omega
    have HE := Go.Lib.hid (show dn ns 0 p d = (d, true) from rfl)
    clear hp
    go_enter Tryd.func92, Tryd.ntmps92
    go_wp2_with fail
    go_ret2
    exact ⟨by rw [HE.out]; rfl, rfl⟩
  | succ f ih =>
    intro p d h0 hp hl2 hd0 hd1
    have IH := Go.Lib.hid ih
    clear ih
    by_cases hpd : p - 2 < d
    · have HE := Go.Lib.hid (show dn ns (f + 1) p d = (d, true) from dn_here hpd)
      clear hp
      go_enter Tryd.func92, Tryd.ntmps92
      go_wp2_with fail
      go_ret2
      exact ⟨by rw [HE.out]; rfl, rfl⟩
    obtain ⟨q, hq⟩ : ∃ q : Nat, p = (q : Int) + 2 := ⟨(p - 2).toNat, by omega⟩
    subst hq
    have e3 : (q : Int) + 2 - 2 = q := by omega
    have hql : q < len := by omega
    have hqi : (q : Int) < len := by omega
    obtain ⟨x, b, off, hx, -, rfl, hbB, c0, c1, c2⟩ := bn_at HN.out hql
    have hx2 : ns.getD ((q : Int) + 2 - 2).toNat default = x := by rw [hx]; congr 1; omega
    obtain ⟨⟨l0, l1⟩, g0, g1⟩ := HA.out q (by rw [HNL.out]; exact hql)
    rw [← hx] at l0 l1 g0 g1
    obtain ⟨bl, bt, bf⟩ := dn_bound HA.out f x.lo d (by omega) (by rw [HNL.out]; omega) hd0
    have HL := Go.Lib.hid (IH.out x.lo d l0 (by omega) (by omega) hd0 hd1)
    rcases hlo : dn ns f x.lo d with ⟨d1, b1⟩
    rw [hlo] at bl bt bf HL
    simp only at bl bt bf HL
    have hqd : ¬ (q : Int) < d := by omega
    have hpn : ¬ (q : Int) + 2 - 2 < d := by omega
    cases b1 with
    | false =>
      have := bf rfl
      have HE := Go.Lib.hid (show dn ns (f + 1) ((q : Int) + 2) d = (d1 + 1, false) from dn_no hpn (by rw [hx2]; exact hlo))
      clear hlo hx hx2 bt bf hpn hpd hp
      go_enter Tryd.func92, Tryd.ntmps92
      go_wp2_with fail
      refine HL.out.mono ?_
      rintro e w' ⟨rfl, rfl⟩
      go_wp2_with fail
      go_ret2
      exact ⟨by rw [HE.out]; rfl, rfl⟩
    | true =>
      have hd1' := bt rfl
      obtain ⟨hl', ht', hf'⟩ := dn_bound HA.out f x.hi d1 (by omega) (by rw [HNL.out]; omega) (by omega)
      have HH := Go.Lib.hid (IH.out x.hi d1 g0 (by omega) (by omega) (by omega) (by omega))
      rcases hhi : dn ns f x.hi d1 with ⟨d2, b2⟩
      rw [hhi] at hl' ht' hf' HH
      simp only at hl' ht' hf' HH
      have hd2 : d2 ≤ 2000 := by cases b2 with
        | false => have := hf' rfl; omega
        | true => have := ht' rfl; omega
      have HE := Go.Lib.hid (show dn ns (f + 1) ((q : Int) + 2) d = (d2 + 1, b2 && decide ((q : Int) + 2 - 2 = d2)) from dn_yes hpn (by rw [hx2]; exact hlo) (by rw [hx2]; exact hhi))
      clear hlo hhi hx hx2 bt bf hpn hpd ht' hf' hp
      cases b2 with
      | false =>
        go_enter Tryd.func92, Tryd.ntmps92
        go_wp2_with fail
        refine HL.out.mono ?_
        rintro e w' ⟨rfl, rfl⟩
        go_wp2_with fail
        refine HH.out.mono ?_
        rintro e w' ⟨rfl, rfl⟩
        go_wp2_with fail
        go_ret2
        exact ⟨by rw [HE.out]; rfl, rfl⟩
      | true =>
        go_enter Tryd.func92, Tryd.ntmps92
        go_wp2_with fail
        refine HL.out.mono ?_
        rintro e w' ⟨rfl, rfl⟩
        go_wp2_with fail
        refine HH.out.mono ?_
        rintro e w' ⟨rfl, rfl⟩
        go_wp2_with fail
        go_ret2
        exact ⟨by rw [HE.out, e3]; rfl, rfl⟩

/-- All nodes stand where they are done. -/
def ordP (ns : List BN) (root : Int) : Prop := isC (ord ns (ns.length + 1) root []) ∧ (ord ns (ns.length + 1) root []).length = ns.length
set_option maxHeartbeats 4000000 in
theorem c_nodesInOrder {B : Nat} {a : Option Addr} {len cap : Nat} {ns : List BN} (vars root : Int) (w : World) (hBw : B ≤ w.heap.size) (h : BnsAt B w a len cap ns) (hl : len ≤ 600) (hf : ∀ k : Nat, k < ns.length → nFine vars ns k) (hr0 : 0 ≤ root) (hr1 : root ≤ (len : Int) + 1) :
    Calls Tryd.prog 75 #[.agg #[.int .i64 vars, .slice a len cap, .int .i64 root]] w fun e w' => BoolIs (ordP ns root) e ∧ Below w.heap.size w w' := by
  have HN := Go.Lib.hid h
  have hnl : ns.length = len := h.1
  have ho := order_dn (root := root) hf (by rw [hnl]; exact hr1)
  have HF := Go.Lib.hid hf
  rcases hd : dn ns (ns.length + 1) root 0 with ⟨d, b⟩
  rw [hd, hnl] at ho
  have HO := Go.Lib.hid (show ordP ns root ↔ (b = true ∧ d = (len : Int)) by unfold ordP; rw [hnl]; exact ho)
  rw [hnl] at hd
  have HD := Go.Lib.hid hd
  have HNL := Go.Lib.hid hnl
  clear h hf hd hnl ho
  go_enter Tryd.func75, Tryd.ntmps75
  go_upto_region 1 with fail
  refine code_gen (R := fun wb => BBox vars a len cap root w wb) (BBox.new _ _ _ _ _ _) ?_
  intro w0 hbox
  have HX0 := Go.Lib.hid hbox
  obtain ⟨x0, x1, x2⟩ := hbox.cells
  have HN0 := Go.Lib.hid (HN.out.below (hbox.bel.mono hBw))
  clear hbox
  go_wp2_with fail
  refine (c_doneFrom w0 HN0.out hl (Ahead.of HF.out) (len + 1) root 0 hr0 (by omega) (by omega) (by omega) (by omega)).mono ?_
  rintro e w1 ⟨rfl, rfl⟩
  rw [HD.out]
  cases b with
  | false =>
    go_wp2_with fail
    go_ret
    exact ⟨BoolIs.no (fun hc => by have := (HO.out.1 hc).1; cases this), HX0.out.bel⟩
  | true =>
    by_cases hdl : d = len
    · subst hdl
      go_wp2_with fail
      go_ret
      exact ⟨BoolIs.yes (HO.out.2 (by first | exact ⟨rfl, rfl⟩ | simp)), HX0.out.bel⟩
    · have hdb : (d == (len : Int)) = false := by simpa using hdl
      go_wp2_with fail
      go_ret
      exact ⟨BoolIs.no (fun hc => hdl (HO.out.1 hc).2), HX0.out.bel⟩
end Go.Proofs.YthdofdglbdfkkaaDoor
