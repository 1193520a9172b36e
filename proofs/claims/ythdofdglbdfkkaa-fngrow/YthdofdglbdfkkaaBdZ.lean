/-
  BddGrow: both sides.
-/
import Derived.Test.YthdofdglbdfkkaaRows
import Derived.Test.YthdofdglbdfkkaaPaA
import Derived.Test.YthdofdglbdfkkaaG0
import Derived.Test.YthdofdglbdfkkaaBdM
import Derived.Test.YthdofdglbdfkkaaBdI
import Derived.Test.YthdofdglbdfkkaaBdJ
import Derived.Test.YthdofdglbdfkkaaBdK
import Derived.Test.YthdofdglbdfkkaaBdL
import Derived.Test.YthdofdglbdfkkaaBdS
import Derived.Test.YthdofdglbdfkkaaBdT
import Derived.Test.YthdofdglbdfkkaaBdC
import Derived.Test.YthdofdglbdfkkaaBdN
import Derived.Test.YthdofdglbdfkkaaBdX
import Derived.Test.YthdofdglbdfkkaaBdY
import Derived.WalkKit
import Derived.ProofKit
import Derived.OpenShut
import Derived.WalkSpells
import Derived.WalkLawsBesides
import Derived.Outline
import Derived.BigQuiet
import Derived.Handy
import Derived.LoopTactic
import Derived.Deep.Light
import Derived.Deep.RegionWith
import Derived.Deep.RegionHeld3
import Derived.Deep.DeepCutAuto
import Derived.Lib.Hide
import Derived.Maps.OwnRows
import Derived.Deep.Onto
import Derived.OneCell
import Derived.StillTailTactics
import Derived.Deep.AppendLies
import Derived.Deep.RegionLaw
namespace Go.Proofs.Ythdofdglbdfkkaa
open Go.ChangeShapes Go.WideShapes Go.ChangeAt Go.RowKit Go.Maps Go.ChangeMaps
set_option linter.unusedVariables false
set_option maxRecDepth 100000


/-- A diagram with more bits. -/
def GrowR (vars : Int) (ns : List BN) (root m V : Int) (ms : List BN) (R : Int) (b : Bool) : Prop :=
  ((OkB vars ns root ∧ varsB m = true ∧ vars ≤ m) ∧ V = m ∧ ms = ns ∧ R = root ∧ b = true) ∨ (¬ (OkB vars ns root ∧ varsB m = true ∧ vars ≤ m) ∧ V = 0 ∧ ms = [] ∧ R = 0 ∧ b = false)
theorem GrowR.inj {vars : Int} {ns : List BN} {root m V V' : Int} {ms ms' : List BN} {R R' : Int} {b b' : Bool} (h : GrowR vars ns root m V ms R b) (k : GrowR vars ns root m V' ms' R' b') : V = V' ∧ ms = ms' ∧ R = R' ∧ b = b' := by
  rcases h with ⟨h0, h1, h2, h3, h4⟩ | ⟨h0, h1, h2, h3, h4⟩ <;> rcases k with ⟨k0, k1, k2, k3, k4⟩ | ⟨k0, k1, k2, k3, k4⟩
  · exact ⟨by rw [h1, k1], by rw [h2, k2], by rw [h3, k3], by rw [h4, k4]⟩
  · exact absurd h0 k0
  · exact absurd k0 h0
  · exact ⟨by rw [h1, k1], by rw [h2, k2], by rw [h3, k3], by rw [h4, k4]⟩
theorem GrowR.len {vars : Int} {ns : List BN} {root m V : Int} {ms : List BN} {R : Int} {b : Bool} (h : GrowR vars ns root m V ms R b) : ms.length ≤ 600 := by
  rcases h with ⟨⟨h0, -⟩, h1, rfl, h3, h4⟩ | ⟨h0, h1, rfl, h3, h4⟩
  · exact h0.len
  · decide
/-- The parameter's box and the result's block. -/
structure B2 (vars : Int) (a : Option Addr) (len cap : Nat) (root : Int) (w wr : World) : Prop where
  box : BBox vars a len cap root w wr
  res : wr.heap[w.heap.size + 1]? = some (.cells #[.int .i64 0, .slice none 0 0, .int .i64 0] 25 (0, 0))
theorem B2.lt {vars : Int} {a : Option Addr} {len cap : Nat} {root : Int} {w wr : World} (h : B2 vars a len cap root w wr) : w.heap.size + 1 < wr.heap.size := (Array.getElem?_eq_some_iff.1 h.res).1
theorem B2.below {vars : Int} {a : Option Addr} {len cap : Nat} {root : Int} {w wr w' : World} (h : B2 vars a len cap root w wr) (hb : Below wr.heap.size wr w') : B2 vars a len cap root w w' := ⟨h.box.below hb, (hb.block _ h.lt).trans h.res⟩
theorem B2.new (vars : Int) (a : Option Addr) (len cap : Nat) (root : Int) (w : World) : B2 vars a len cap root w ((w.alloc (.cells #[.int .i64 vars, .slice a len cap, .int .i64 root] 25)).alloc (.cells #[.int .i64 0, .slice none 0 0, .int .i64 0] 25)) :=
  ⟨(BBox.new vars a len cap root w).below (by go_grown), by
    have e : w.heap.size + 1 = (w.alloc (.cells #[.int .i64 vars, .slice a len cap, .int .i64 root] 25)).heap.size := by show _ = (w.heap.push _).size; simp
    rw [e]; exact (MapKept.heap_alloc _ _).1⟩

theorem app_keepN {w3 w4 : World} {o : Obj} {v : Value} {k : Nat} (hg : (w3.drew.alloc o).grownBy w4 v.ownBlock) (hk : k < w3.heap.size) (hv : ∀ x, v.ownBlock = some x → k + 1 ≤ x) : w4.heap[k]? = w3.heap[k]? :=
  (hg.block k (Nat.lt_trans hk (alloc_ltS w3.drew o)) (fun e => by have := hv k e.symm; omega)).trans (Below.heap_alloc w3.drew _ _ hk)
theorem grow_next {vars root m : Int} {a : Option Addr} {len cap : Nat} {ns : List BN} {w wi w4 : World} {o : Obj} {x : Value} {j g cap' go : Nat} {n : BN} (hj : j < len) (hl : ns.length = len) (hn : n = ns.getD j default) (hok : n.ok) (hX : B2 vars a len cap root w wi)
    (hk : wi.heap[go]? = some (.cells #[.int .i64 m, x, .int .i64 root] 25 (0, 0))) (hgo : w.heap.size + 1 < go) (ho : OwnN wi (go + 1) x (ns.take j))
    (hown : w4.ownsRow (go + 1) 45 3 (.slice (some ⟨g, 0, none⟩) (j + 1) cap') (j + 1) ((ns.take j).flatMap BN.cells ++ [.int .i64 n.v, .int .i64 n.lo, .int .i64 n.hi])) (hg : (wi.drew.alloc o).grownBy w4 x.ownBlock) :
    B2 vars a len cap root w (w4.setCell ⟨go, 1, none⟩ (.slice (some ⟨g, 0, none⟩) (j + 1) cap')) ∧
      (w4.setCell ⟨go, 1, none⟩ (.slice (some ⟨g, 0, none⟩) (j + 1) cap')).heap[go]? = some (.cells #[.int .i64 m, .slice (some ⟨g, 0, none⟩) (j + 1) cap', .int .i64 root] 25 (0, 0)) ∧
      OwnN (w4.setCell ⟨go, 1, none⟩ (.slice (some ⟨g, 0, none⟩) (j + 1) cap')) (go + 1) (.slice (some ⟨g, 0, none⟩) (j + 1) cap') (ns.take (j + 1)) := by
  have hlt := hX.lt
  have hgl : go < wi.heap.size := (Array.getElem?_eq_some_iff.1 hk).1
  have hv : ∀ y, x.ownBlock = some y → go + 1 ≤ y := fun y hy => (ho.1.lt y hy).1
  have hkp : ∀ y, y < go + 1 → w4.heap[y]? = wi.heap[y]? := fun y hy => app_keepN hg (by omega) (fun z hz => by have := hv z hz; omega)
  have hjl : j < ns.length := by omega
  have ht : ns.take (j + 1) = ns.take j ++ [n] := by rw [List.take_succ_eq_append_getElem hjl, hn]; simp [List.getD, hjl]
  have htl : (ns.take j).length = j := by rw [List.length_take]; omega
  refine ⟨⟨⟨?_, ?_⟩, ?_⟩, ?_, ?_⟩
  · exact (heap_setCell_other _ _ _ _ (by show w.heap.size ≠ go; omega)).trans ((hkp _ (by omega)).trans hX.box.blk)
  · have hb2 : Below w.heap.size w (wi.drew.alloc o) := Below.alloc hX.box.bel.drew hX.box.bel.size _
    have h4 : Below w.heap.size w w4 := hb2.grown hg (Nat.le_trans hX.box.bel.size (Nat.le_of_lt (alloc_ltS wi.drew o))) (fun y hy => by have := hv y hy; omega)
    exact h4.setCell (by show w.heap.size ≤ go; omega) _
  · exact (heap_setCell_other _ _ _ _ (by show w.heap.size + 1 ≠ go; omega)).trans ((hkp _ (by omega)).trans hX.res)
  · exact heap_setCell_same _ _ 1 _ _ _ ((hkp _ (by omega)).trans hk)
  · rw [ht]
    have h1 : OwnN w4 (go + 1) (.slice (some ⟨g, 0, none⟩) (j + 1) cap') (ns.take j ++ [n]) := ho.app (ms := [n]) (fun y hy => by simp at hy; rw [hy]; exact hok) (by rw [htl]; exact hown)
    exact h1.block (fun y h2 _ _ => heap_setCell_other _ _ _ _ (by show y ≠ go; omega))

set_option maxHeartbeats 8000000 in
theorem c_BddGrowI {B : Nat} {a : Option Addr} {len cap : Nat} {ns : List BN} (vars root m : Int) (w : World) (hBw : B ≤ w.heap.size) (h : BnsAt B w a len cap ns) :
    Calls Try.prog 5 #[.agg #[.int .i64 vars, .slice a len cap, .int .i64 root], .int .i64 m] w (BddQ (GrowR vars ns root m) w) := by
  have HN := Go.Lib.hid h
  clear h
  obtain ⟨i1, hi1, hz01, hz11, hz21⟩ := info_parts bnInfo
  have HI1 := Go.Lib.hid hi1
  have HZ01 := Go.Lib.hid hz01
  have HZ11 := Go.Lib.hid hz11
  have HZ21 := Go.Lib.hid hz21
  clear hi1 hz01 hz11 hz21
  go_enter Try.func5, Try.ntmps5
  go_upto_region 1 with fail
  refine code_gen (R := fun wb => B2 vars a len cap root w wb) (B2.new _ _ _ _ _ _) ?_
  intro w0 hbox
  have HX0 := Go.Lib.hid hbox
  obtain ⟨x0, x1, x2⟩ := hbox.box.cells
  have HN0 := Go.Lib.hid (HN.out.below (hbox.box.bel.mono hBw))
  have hB0 : B ≤ w0.heap.size := Nat.le_trans hBw hbox.box.bel.size
  clear hbox
  go_wp2_with fail
  refine (c_BddOkI (B := B) vars root w0 hB0 HN0.out).mono ?_
  rintro e w1 ⟨hb, hq⟩
  have HX1 := Go.Lib.hid (HX0.out.below hq)
  have HN1 := Go.Lib.hid (HN0.out.below (hq.mono hB0))
  have hB1 : B ≤ w1.heap.size := Nat.le_trans hB0 hq.size
  clear hq x0 x1 x2 HX0 HN0
  obtain ⟨x0, x1, x2⟩ := HX1.out.box.cells
  have z0 := cell_of_block (i := 0) HX1.out.res (v := .int .i64 0) rfl
  have z1 := cell_of_block (i := 1) HX1.out.res (v := .slice none 0 0) rfl
  have z2 := cell_of_block (i := 2) HX1.out.res (v := .int .i64 0) rfl
  have f0 := free_of_block (i := 0) HX1.out.res
  have f1 := free_of_block (i := 1) HX1.out.res
  have f2 := free_of_block (i := 2) HX1.out.res
  by_cases ho : OkB vars ns root
  rotate_left
  · obtain rfl := boolIs_f ho hb
    have HO := Go.Lib.hid ho
    clear ho hb
    go_wp2_with fail
    refine bodyPost_ret (v := .tuple #[.agg #[.int .i64 0, .slice none 0 0, .int .i64 0], .bool false]) (results_cell_q (p := 4) (q := 5) rfl _ _ (w.heap.size + 1) 25 _ (0, 0) _ rfl rfl (heap_setCell_same _ _ 2 _ _ _ (heap_setCell_same _ _ 1 _ _ _ (heap_setCell_same _ _ 0 _ _ _ HX1.out.res))) Try.underlying25 rfl (by kernel_rfl)) rfl ⟨_, _, _, _, [], rfl, OwnN.nil _ _, .inr ⟨(fun h => HO.out h.1), rfl, rfl, rfl, rfl⟩, ?_⟩
    exact ((HX1.out.box.bel.setCell (p := ⟨w.heap.size + 1, 0, none⟩) (Nat.le_succ _) _).setCell (p := ⟨w.heap.size + 1, 1, none⟩) (Nat.le_succ _) _).setCell (p := ⟨w.heap.size + 1, 2, none⟩) (Nat.le_succ _) _
  obtain rfl := boolIs_t ho hb
  have HO := Go.Lib.hid ho
  clear ho hb
  have HV := Go.Lib.hid (c_bddVarsOk m w1)
  cases hv : varsB m with
  | false =>
    rw [hv] at HV
    have HVB := Go.Lib.hid hv
    clear hv
    go_wp2_with fail
    refine HV.out.mono ?_
    rintro e w' ⟨rfl, hw⟩
    cases hw
    go_wp2_with fail
    refine bodyPost_ret (v := .tuple #[.agg #[.int .i64 0, .slice none 0 0, .int .i64 0], .bool false]) (results_cell_q (p := 4) (q := 5) rfl _ _ (w.heap.size + 1) 25 _ (0, 0) _ rfl rfl (heap_setCell_same _ _ 2 _ _ _ (heap_setCell_same _ _ 1 _ _ _ (heap_setCell_same _ _ 0 _ _ _ HX1.out.res))) Try.underlying25 rfl (by kernel_rfl)) rfl ⟨_, _, _, _, [], rfl, OwnN.nil _ _, .inr ⟨(fun h => by have h1 := h.2.1; rw [HVB.out] at h1; cases h1), rfl, rfl, rfl, rfl⟩, ?_⟩
    exact ((HX1.out.box.bel.setCell (p := ⟨w.heap.size + 1, 0, none⟩) (Nat.le_succ _) _).setCell (p := ⟨w.heap.size + 1, 1, none⟩) (Nat.le_succ _) _).setCell (p := ⟨w.heap.size + 1, 2, none⟩) (Nat.le_succ _) _
  | true =>
    rw [hv] at HV
    have HVB := Go.Lib.hid hv
    clear hv
    go_wp2_with fail
    refine HV.out.mono ?_
    rintro e w' ⟨rfl, hw⟩
    cases hw
    by_cases hm : m < vars
    · have HM := Go.Lib.hid hm
      go_wp2_with fail
      refine bodyPost_ret (v := .tuple #[.agg #[.int .i64 0, .slice none 0 0, .int .i64 0], .bool false]) (results_cell_q (p := 4) (q := 5) rfl _ _ (w.heap.size + 1) 25 _ (0, 0) _ rfl rfl (heap_setCell_same _ _ 2 _ _ _ (heap_setCell_same _ _ 1 _ _ _ (heap_setCell_same _ _ 0 _ _ _ HX1.out.res))) Try.underlying25 rfl (by kernel_rfl)) rfl ⟨_, _, _, _, [], rfl, OwnN.nil _ _, .inr ⟨(fun h => by have h1 := h.2.2; have h2 := HM.out; omega), rfl, rfl, rfl, rfl⟩, ?_⟩
      exact ((HX1.out.box.bel.setCell (p := ⟨w.heap.size + 1, 0, none⟩) (Nat.le_succ _) _).setCell (p := ⟨w.heap.size + 1, 1, none⟩) (Nat.le_succ _) _).setCell (p := ⟨w.heap.size + 1, 2, none⟩) (Nat.le_succ _) _
    have HG := Go.Lib.hid (show OkB vars ns root ∧ varsB m = true ∧ vars ≤ m from ⟨HO.out, HVB.out, by omega⟩)
    have HXL := Go.Lib.hid HX1.out.box.lt
    have HLN := Go.Lib.hid (show len ≤ 1048576 by have h1 := HO.out.len; have h2 : ns.length = len := HN.out.1; omega)
    clear z0 z1 z2 f0 f1 f2
    go_upto_region 3 with fail
    refine wp_region_held_drew (S := (fun w' => w'.cell? ⟨w.heap.size, 1, none⟩ = some (.slice a len cap) ∧ w'.cell? ⟨w.heap.size, 2, none⟩ = some (.int .i64 root))) (by kernel_rfl) ?_ (fun hHeld => ?_)
    · first | exact ⟨x1, x2⟩ | exact ⟨keepc HQ2.out HXL.out x1, keepc HQ2.out HXL.out x2⟩ | exact ⟨(World.cell?_setCell_other _ _ _ _ (by simp)).trans ((World.cell?_setCell_other _ _ _ _ (by simp)).trans ((World.cell?_setCell_other _ _ _ _ (by simp)).trans (keepc HQ2.out HXL.out x1))), (World.cell?_setCell_other _ _ _ _ (by simp)).trans ((World.cell?_setCell_other _ _ _ _ (by simp)).trans ((World.cell?_setCell_other _ _ _ _ (by simp)).trans (keepc HQ2.out HXL.out x2)))⟩
    refine tL 0 (some 21) ?_
    refine tL 1 (some 22) ?_
    refine tL 2 (some 23) ?_
    refine tL 4 (some 25) ?_
    refine tL 5 (some 26) ?_
    refine wpAnyH_ready (rs := [3]) (by kernel_rfl) (by simp) ?_
    refine AllReadyH.cons (o := _) rfl (fun K hK => ?_) AllReadyH.nil
    go_simp
    refine (c_CloneB (B := B) w1.drew hB1 ((HN1.out.below (Below.refl _ w1).drew)) HLN.out).mono ?_
    rintro e w2 ⟨x, rfl, hown, hq⟩
    obtain ⟨xa, xc, rfl, -⟩ := OwnN.form hown
    have HOW := Go.Lib.hid (show OwnN w2 w1.heap.size (.slice xa ns.length xc) ns from hown)
    have HQ2 := Go.Lib.hid (show Below w1.heap.size w1 w2 from ⟨hq.os, hq.tape, hq.output, hq.size, hq.block⟩)
    have HX2 := Go.Lib.hid (HX1.out.below HQ2.out)
    have z0 := cell_of_block (i := 0) HX2.out.res (v := .int .i64 0) rfl
    have z1 := cell_of_block (i := 1) HX2.out.res (v := .slice none 0 0) rfl
    have z2 := cell_of_block (i := 2) HX2.out.res (v := .int .i64 0) rfl
    have f0 := free_of_block (i := 0) HX2.out.res
    have f1 := free_of_block (i := 1) HX2.out.res
    have f2 := free_of_block (i := 2) HX2.out.res
    clear hown hq
    (try go_wp2_with fail)
    (try clear hHeld)
    refine hK.out _ _ ?_ (fun hHeld => ?_)
    · first | exact ⟨x1, x2⟩ | exact ⟨keepc HQ2.out HXL.out x1, keepc HQ2.out HXL.out x2⟩ | exact ⟨(World.cell?_setCell_other _ _ _ _ (by simp)).trans ((World.cell?_setCell_other _ _ _ _ (by simp)).trans ((World.cell?_setCell_other _ _ _ _ (by simp)).trans (keepc HQ2.out HXL.out x1))), (World.cell?_setCell_other _ _ _ _ (by simp)).trans ((World.cell?_setCell_other _ _ _ _ (by simp)).trans ((World.cell?_setCell_other _ _ _ _ (by simp)).trans (keepc HQ2.out HXL.out x2)))⟩
    clear hK K
    (try simp only [Act.put, List.setIfInBounds_toArray, List.set_cons_zero, List.set_cons_succ])
    refine tL 6 (some 27) ?_
    refine wpAnyH_ready (rs := [7]) (by kernel_rfl) (by simp) ?_
    refine AllReadyH.cons (o := _) rfl (fun K hK => ?_) AllReadyH.nil
    go_simp
    (try clear hHeld)
    refine hK.out _ _ ?_ (fun hHeld => ?_)
    · first | exact ⟨x1, x2⟩ | exact ⟨keepc HQ2.out HXL.out x1, keepc HQ2.out HXL.out x2⟩ | exact ⟨(World.cell?_setCell_other _ _ _ _ (by simp)).trans ((World.cell?_setCell_other _ _ _ _ (by simp)).trans ((World.cell?_setCell_other _ _ _ _ (by simp)).trans (keepc HQ2.out HXL.out x1))), (World.cell?_setCell_other _ _ _ _ (by simp)).trans ((World.cell?_setCell_other _ _ _ _ (by simp)).trans ((World.cell?_setCell_other _ _ _ _ (by simp)).trans (keepc HQ2.out HXL.out x2)))⟩
    clear hK K
    (try simp only [Act.put, List.setIfInBounds_toArray, List.set_cons_zero, List.set_cons_succ])
    refine tL 8 (some 5) ?_
    refine wpAnyH_done (by kernel_rfl) ?_ _
    clear hHeld
    go_wp2_with fail
    refine bodyPost_ret (v := .tuple #[.agg #[.int .i64 m, .slice xa ns.length xc, .int .i64 root], .bool true]) (results_cell_q (p := 4) (q := 5) rfl _ _ (w.heap.size + 1) 25 _ (0, 0) _ rfl rfl (heap_setCell_same _ _ 2 _ _ _ (heap_setCell_same _ _ 1 _ _ _ (heap_setCell_same _ _ 0 _ _ _ HX2.out.res))) Try.underlying25 rfl (by kernel_rfl)) rfl ⟨_, _, _, _, ns, rfl, ?_, .inl ⟨HG.out, rfl, rfl, rfl, rfl⟩, ?_⟩
    · exact OwnN.mono (OwnN.block HOW.out (fun y h1 _ _ => by have h2 := HX1.out.lt; rw [heap_setCell_other _ _ _ _ (by show y ≠ w.heap.size + 1; omega), heap_setCell_other _ _ _ _ (by show y ≠ w.heap.size + 1; omega), heap_setCell_other _ _ _ _ (by show y ≠ w.heap.size + 1; omega)])) HX1.out.box.bel.size
    · exact ((HX2.out.box.bel.setCell (p := ⟨w.heap.size + 1, 0, none⟩) (Nat.le_succ _) _).setCell (p := ⟨w.heap.size + 1, 1, none⟩) (Nat.le_succ _) _).setCell (p := ⟨w.heap.size + 1, 2, none⟩) (Nat.le_succ _) _

set_option maxHeartbeats 8000000 in
theorem c_BddGrowS {B : Nat} {a : Option Addr} {len cap : Nat} {ns : List BN} (vars root m : Int) (w : World) (hBw : B ≤ w.heap.size) (h : BnsAt B w a len cap ns) :
    Calls Try.prog 6 #[.agg #[.int .i64 vars, .slice a len cap, .int .i64 root], .int .i64 m] w (BddQ (GrowR vars ns root m) w) := by
  have HN := Go.Lib.hid h
  clear h
  obtain ⟨i1, hi1, hz01, hz11, hz21⟩ := info_parts bnInfo
  have HI1 := Go.Lib.hid hi1
  have HZ01 := Go.Lib.hid hz01
  have HZ11 := Go.Lib.hid hz11
  have HZ21 := Go.Lib.hid hz21
  clear hi1 hz01 hz11 hz21
  go_enter Try.func6, Try.ntmps6
  go_upto_region 1 with fail
  refine code_gen (R := fun wb => B2 vars a len cap root w wb) (B2.new _ _ _ _ _ _) ?_
  intro w0 hbox
  have HX0 := Go.Lib.hid hbox
  obtain ⟨x0, x1, x2⟩ := hbox.box.cells
  have HN0 := Go.Lib.hid (HN.out.below (hbox.box.bel.mono hBw))
  have hB0 : B ≤ w0.heap.size := Nat.le_trans hBw hbox.box.bel.size
  clear hbox
  go_wp2_with fail
  refine (c_BddOkS (B := B) vars root w0 hB0 HN0.out).mono ?_
  rintro e w1 ⟨hb, hq⟩
  have HX1 := Go.Lib.hid (HX0.out.below hq)
  have HN1 := Go.Lib.hid (HN0.out.below (hq.mono hB0))
  have hB1 : B ≤ w1.heap.size := Nat.le_trans hB0 hq.size
  clear hq x0 x1 x2 HX0 HN0
  obtain ⟨x0, x1, x2⟩ := HX1.out.box.cells
  have z0 := cell_of_block (i := 0) HX1.out.res (v := .int .i64 0) rfl
  have z1 := cell_of_block (i := 1) HX1.out.res (v := .slice none 0 0) rfl
  have z2 := cell_of_block (i := 2) HX1.out.res (v := .int .i64 0) rfl
  have f0 := free_of_block (i := 0) HX1.out.res
  have f1 := free_of_block (i := 1) HX1.out.res
  have f2 := free_of_block (i := 2) HX1.out.res
  by_cases ho : OkB vars ns root
  rotate_left
  · obtain rfl := boolIs_f ho hb
    have HO := Go.Lib.hid ho
    clear ho hb
    go_wp2_with fail
    refine bodyPost_ret (v := .tuple #[.agg #[.int .i64 0, .slice none 0 0, .int .i64 0], .bool false]) (results_cell_q (p := 4) (q := 5) rfl _ _ (w.heap.size + 1) 25 _ (0, 0) _ rfl rfl (heap_setCell_same _ _ 2 _ _ _ (heap_setCell_same _ _ 1 _ _ _ (heap_setCell_same _ _ 0 _ _ _ HX1.out.res))) Try.underlying25 rfl (by kernel_rfl)) rfl ⟨_, _, _, _, [], rfl, OwnN.nil _ _, .inr ⟨(fun h => HO.out h.1), rfl, rfl, rfl, rfl⟩, ?_⟩
    exact ((HX1.out.box.bel.setCell (p := ⟨w.heap.size + 1, 0, none⟩) (Nat.le_succ _) _).setCell (p := ⟨w.heap.size + 1, 1, none⟩) (Nat.le_succ _) _).setCell (p := ⟨w.heap.size + 1, 2, none⟩) (Nat.le_succ _) _
  obtain rfl := boolIs_t ho hb
  have HO := Go.Lib.hid ho
  clear ho hb
  have HV := Go.Lib.hid (c_l7Vars m w1)
  cases hv : varsB m with
  | false =>
    rw [hv] at HV
    have HVB := Go.Lib.hid hv
    clear hv
    go_wp2_with fail
    refine HV.out.mono ?_
    rintro e w' ⟨rfl, hw⟩
    cases hw
    go_wp2_with fail
    refine bodyPost_ret (v := .tuple #[.agg #[.int .i64 0, .slice none 0 0, .int .i64 0], .bool false]) (results_cell_q (p := 4) (q := 5) rfl _ _ (w.heap.size + 1) 25 _ (0, 0) _ rfl rfl (heap_setCell_same _ _ 2 _ _ _ (heap_setCell_same _ _ 1 _ _ _ (heap_setCell_same _ _ 0 _ _ _ HX1.out.res))) Try.underlying25 rfl (by kernel_rfl)) rfl ⟨_, _, _, _, [], rfl, OwnN.nil _ _, .inr ⟨(fun h => by have h1 := h.2.1; rw [HVB.out] at h1; cases h1), rfl, rfl, rfl, rfl⟩, ?_⟩
    exact ((HX1.out.box.bel.setCell (p := ⟨w.heap.size + 1, 0, none⟩) (Nat.le_succ _) _).setCell (p := ⟨w.heap.size + 1, 1, none⟩) (Nat.le_succ _) _).setCell (p := ⟨w.heap.size + 1, 2, none⟩) (Nat.le_succ _) _
  | true =>
    rw [hv] at HV
    have HVB := Go.Lib.hid hv
    clear hv
    go_wp2_with fail
    refine HV.out.mono ?_
    rintro e w' ⟨rfl, hw⟩
    cases hw
    by_cases hm : m < vars
    · have HM := Go.Lib.hid hm
      go_wp2_with fail
      refine bodyPost_ret (v := .tuple #[.agg #[.int .i64 0, .slice none 0 0, .int .i64 0], .bool false]) (results_cell_q (p := 4) (q := 5) rfl _ _ (w.heap.size + 1) 25 _ (0, 0) _ rfl rfl (heap_setCell_same _ _ 2 _ _ _ (heap_setCell_same _ _ 1 _ _ _ (heap_setCell_same _ _ 0 _ _ _ HX1.out.res))) Try.underlying25 rfl (by kernel_rfl)) rfl ⟨_, _, _, _, [], rfl, OwnN.nil _ _, .inr ⟨(fun h => by have h1 := h.2.2; have h2 := HM.out; omega), rfl, rfl, rfl, rfl⟩, ?_⟩
      exact ((HX1.out.box.bel.setCell (p := ⟨w.heap.size + 1, 0, none⟩) (Nat.le_succ _) _).setCell (p := ⟨w.heap.size + 1, 1, none⟩) (Nat.le_succ _) _).setCell (p := ⟨w.heap.size + 1, 2, none⟩) (Nat.le_succ _) _
    have HG := Go.Lib.hid (show OkB vars ns root ∧ varsB m = true ∧ vars ≤ m from ⟨HO.out, HVB.out, by omega⟩)
    have HLN := Go.Lib.hid (show ns.length = len from HN.out.1)
    have hl6 : len ≤ 600 := by have h1 := HO.out.len; have h2 := HLN.out; omega
    clear z0 z1 z2 f0 f1 f2 x0 x1 x2
    obtain ⟨x0, x1, x2⟩ := HX1.out.box.cells
    go_upto_region 4 with fail
    refine code_gen (R := fun wb => wb.heap[w1.heap.size]? = some (.cells #[.int .i64 m, .slice none 0 0, .int .i64 root] 25 (0, 0)) ∧ Below w1.heap.size w1 wb) ⟨by first | exact (MapKept.heap_alloc _ _).1 | exact heap_alloc_new _ _, by go_grown⟩ ?_
    rintro w2 ⟨k2, hb2⟩
    have HX2 := Go.Lib.hid (HX1.out.below hb2)
    have hl1 : w.heap.size + 1 < w1.heap.size := HX1.out.lt
    obtain ⟨go, hgo⟩ : ∃ g, w1.heap.size = g := ⟨_, rfl⟩
    rw [hgo] at k2 hl1 ⊢
    have HK2 := Go.Lib.hid k2
    clear k2 hb2 hgo x0 x1 x2 HX1 HN1 hB1 HV
    go_wp2_with fail
    go_loopw [7] (fun i wr => ∃ (j : Nat) (x : Value), j ≤ len ∧ i = .int .i64 j ∧ B2 vars a len cap root w wr ∧ wr.heap[go]? = some (.cells #[.int .i64 m, x, .int .i64 root] 25 (0, 0)) ∧ OwnN wr (go + 1) x (ns.take j)) (fun i _ => len - (intOf i).toNat)
    case atStart => exact ⟨0, _, by omega, rfl, HX2.out, HK2.out, OwnN.nil _ _⟩
    case round =>
      obtain ⟨j, x, hj, rfl, hX, hk, hown⟩ := hrel
      have HX := Go.Lib.hid hX
      have HK := Go.Lib.hid hk
      have HOW := Go.Lib.hid hown
      have hgl : go < wr.heap.size := (Array.getElem?_eq_some_iff.1 hk).1
      obtain ⟨x0, x1, x2⟩ := hX.box.cells
      have v0 := cell_of_block (i := 0) hk (v := .int .i64 m) rfl
      have v1 := cell_of_block (i := 1) hk (v := x) rfl
      have v2 := cell_of_block (i := 2) hk (v := .int .i64 root) rfl
      have f1 := free_of_block (i := 1) hk
      clear hX hk hown
      by_cases hjl : j < len
      · have hji : (j : Int) < len := by omega
        obtain ⟨n, b, off, hn, hnok, rfl, hbB, c0, c1, c2⟩ := bn_at (HN.out.below (HX.out.box.bel.mono hBw)) hjl
        have HNN := Go.Lib.hid hn
        have HNO := Go.Lib.hid hnok
        have HOJ := Go.Lib.hid (show wr.ownsRow (go + 1) 45 3 x j ((ns.take j).flatMap BN.cells) from by have h1 := HOW.out.1; rw [List.length_take, Nat.min_eq_left (by have := HLN.out; omega)] at h1; exact h1)
        clear hn hnok x0 x2 v0 v2
        go_upto_region 7 with fail
        go_region_law (first | (refine step_append_lies _ rfl (.tmp 35) (.tmp 41) 23 rfl (go + 1) 45 i1 (.agg #[.int .i64 0, .int .i64 0, .int .i64 0]) 3 24 Try.underlying23 HI1.out HZ01.out HZ11.out HZ21.out rfl (by decide) x j _ (by simp [Act.eval]) (HOJ.out.drew.alloc _) ⟨wr.heap.size, 0, none⟩ 1 1 [.int .i64 n.v, .int .i64 n.lo, .int .i64 n.hi] (by simp [Act.eval]) rfl (bn_new n wr.drew) (bn_one n) (by decide) (by unfold maxLen; omega) (by omega) (by simp; omega) _ rfl ?_; intro g cap' w4 hown' hgrow' hat hlt4; have v4 := (World.cell?_of_block (w := wr) (w' := w4) (a := ⟨go, 1, none⟩) (app_keepN hgrow' hgl (fun x hx => (HOJ.out.lt x hx).1))).trans v1; have f4 := (World.frozen?_of_block (w := wr) (w' := w4) (a := ⟨go, 1, none⟩) (app_keepN hgrow' hgl (fun x hx => (HOJ.out.lt x hx).1))).trans f1))
        all_goals
          have HQ := Go.Lib.hid (grow_next hjl HLN.out HNN.out HNO.out HX.out HK.out hl1 HOW.out hown' hgrow')
          clear hown' hgrow' hat hlt4 v4 f4 v1 f1 c0 c1 c2 x1
          go_wp2_with fail
          go_roundw
          case rel => exact ⟨j + 1, _, by omega, by go_num, HQ.out.1, HQ.out.2.1, HQ.out.2.2⟩
          case measure => simp [intOf] <;> omega
      · have hji : ¬ (j : Int) < len := by omega
        obtain rfl : j = len := by omega
        have h0 := HOW.out
        rw [List.take_of_length_le (by have := HLN.out; omega)] at h0
        obtain ⟨xa, xc, rfl, -⟩ := OwnN.form h0
        have HO2 := Go.Lib.hid h0
        clear h0 HOW
        have z0 := cell_of_block (i := 0) HX.out.res (v := .int .i64 0) rfl
        have z1 := cell_of_block (i := 1) HX.out.res (v := .slice none 0 0) rfl
        have z2 := cell_of_block (i := 2) HX.out.res (v := .int .i64 0) rfl
        have f0 := free_of_block (i := 0) HX.out.res
        have f1 := free_of_block (i := 1) HX.out.res
        have f2 := free_of_block (i := 2) HX.out.res
        go_wp2_with fail
        refine bodyPost_ret (v := .tuple #[.agg #[.int .i64 m, .slice xa ns.length xc, .int .i64 root], .bool true]) (results_cell_q (p := 4) (q := 5) rfl _ _ (w.heap.size + 1) 25 _ (0, 0) _ rfl rfl (heap_setCell_same _ _ 2 _ _ _ (heap_setCell_same _ _ 1 _ _ _ (heap_setCell_same _ _ 0 _ _ _ HX.out.res))) Try.underlying25 rfl (by kernel_rfl)) rfl ⟨_, _, _, _, ns, rfl, ?_, .inl ⟨HG.out, rfl, rfl, rfl, rfl⟩, ?_⟩
        · exact OwnN.mono (OwnN.block HO2.out (fun y h1 _ _ => by rw [heap_setCell_other _ _ _ _ (by show y ≠ w.heap.size + 1; omega), heap_setCell_other _ _ _ _ (by show y ≠ w.heap.size + 1; omega), heap_setCell_other _ _ _ _ (by show y ≠ w.heap.size + 1; omega)])) (by omega)
        · exact ((HX.out.box.bel.setCell (p := ⟨w.heap.size + 1, 0, none⟩) (Nat.le_succ _) _).setCell (p := ⟨w.heap.size + 1, 1, none⟩) (Nat.le_succ _) _).setCell (p := ⟨w.heap.size + 1, 2, none⟩) (Nat.le_succ _) _
end Go.Proofs.Ythdofdglbdfkkaa
