/-
  When a diagram is one: the program, whole.
-/
import Derived.Test.YthdofdglbdfkkaaDoorRows
import Derived.Test.YthdofdglbdfkkaaDoorG0
import Derived.Test.YthdofdglbdfkkaaDoorMapB
import Derived.Test.YthdofdglbdfkkaaDoorBdM
import Derived.Test.YthdofdglbdfkkaaDoorBdI
import Derived.Test.YthdofdglbdfkkaaDoorBdJ
import Derived.Test.YthdofdglbdfkkaaDoorBdK
import Derived.DeepKeys4
import Derived.WideKeyArgs
import Derived.WalkKit
import Derived.ProofKit
import Derived.OpenShut
import Derived.WalkSpells
import Derived.WalkLawsBesides
import Derived.Outline
import Derived.BigQuiet
import Derived.Handy
import Derived.LoopTactic
import Derived.Deep.Light
import Derived.Deep.RegionWith
import Derived.Deep.RegionHeld3
import Derived.Deep.DeepCutAuto
import Derived.Lib.Hide
import Derived.Maps.OwnRows
import Derived.Deep.Onto
import Derived.OneCell
import Derived.StillTailTactics
import Derived.Deep.AppendLies
import Derived.Deep.RegionLaw
namespace Go.Proofs.YthdofdglbdfkkaaDoor
open Go.ChangeShapes Go.WideShapes Go.ChangeAt Go.RowKit Go.Maps Go.ChangeMaps
set_option linter.unusedVariables false
set_option maxRecDepth 100000


theorem bnLaid : laidOutB Tryd.prog = true := by kernel_rfl
theorem bnK : Keyed Tryd.prog 67 := Keyed.of_law (deep_law_laid bnLaid (m := 2) (by omega) (of_decide_eq_true (by kernel_rfl)) (by kernel_rfl) (by rw [Tryd.underlying67]))
theorem mapNB : Tryd.prog.underlying 105 = some (.map 67 4) := Tryd.underlying105
theorem bnKeyType : Tryd.prog.keyType 67 = true := by kernel_rfl
theorem bnSize : ∃ m, Tryd.prog.types.size = m + 1 := ⟨Tryd.prog.types.size - 1, by have : 0 < Tryd.prog.types.size := of_decide_eq_true (by kernel_rfl); omega⟩
theorem keyOf_bn (x : BN) (h : x.ok) : ∃ kl, keyOf Tryd.prog 67 (.agg #[.int .i64 x.v, .int .i64 x.lo, .int .i64 x.hi]) = some kl := by
  obtain ⟨m, hm⟩ := bnSize
  obtain ⟨h1, h2, h3⟩ := h
  have w1 : (Lit.int .i64 x.v).wf = true := h1
  have w2 : (Lit.int .i64 x.lo).wf = true := h2
  have w3 : (Lit.int .i64 x.hi).wf = true := h3
  have c3 : Tryd.prog.cellsOf 67 = 3 := by kernel_rfl
  have c1 : Tryd.prog.cellsOf 3 = 1 := by kernel_rfl
  unfold keyOf
  simp only [Tryd.underlying67]
  rw [if_pos (by simp [bnKeyType, Value.formed, Tryd.underlying67, c3]), hm]
  unfold Program.keyLits
  simp only [Tryd.underlying67, Value.cells]
  rw [if_pos (by rw [c3]; exact ⟨rfl, by first | rfl | kernel_rfl | simp⟩)]
  simp only [List.mapM_cons, List.mapM_nil]
  simp [c1, Program.keyLits, Tryd.underlying3, w1, w2, w3]
def bnAgg (x : BN) : Value := .agg #[.int .i64 x.v, .int .i64 x.lo, .int .i64 x.hi]
theorem bnAgg_inj {x y : BN} (h : bnAgg x = bnAgg y) : x = y := by
  unfold bnAgg at h
  simp only [Value.agg.injEq, Array.mk.injEq, List.cons.injEq, Value.int.injEq, true_and, and_true] at h
  obtain ⟨v, lo, hi⟩ := x
  obtain ⟨v', lo', hi'⟩ := y
  simp only [BN.mk.injEq] at h ⊢
  exact h
theorem run_makeMapN (n : Nat) (w : World) : (Instr.makeMap 105 (some (.int .i64 (n : Int)))).run Tryd.prog w = .ok (.map (some w.heap.size)) (w.alloc (.map #[] 0)) := by
  simp [Instr.makeMap]
  rfl
/-- Two nodes are alike. -/
def twiceN (ns : List BN) : Prop := ∃ x y, y < x ∧ x < ns.length ∧ ns.getD x default = ns.getD y default
def InK (ns : List BN) (k : Nat) (z : Lit) : Prop := ∃ y, y < k ∧ keyOf Tryd.prog 67 (bnAgg (ns.getD y default)) = some z
theorem inK_next {ns : List BN} {k : Nat} {kl : Lit} (h : keyOf Tryd.prog 67 (bnAgg (ns.getD k default)) = some kl) (z : Lit) : (z = kl ∨ InK ns k z) ↔ InK ns (k + 1) z := by
  constructor
  · rintro (rfl | ⟨y, hy, e⟩)
    · exact ⟨k, by omega, h⟩
    · exact ⟨y, by omega, e⟩
  · rintro ⟨y, hy, e⟩
    rcases Nat.lt_or_ge y k with hk | hk
    · exact .inr ⟨y, hk, e⟩
    · obtain rfl : y = k := by omega
      rw [h] at e; injection e with e
      exact .inl e.symm

set_option maxHeartbeats 4000000 in
theorem c_hasNodeTwice {B : Nat} {a : Option Addr} {len cap : Nat} {ns : List BN} (w : World) (hBw : B ≤ w.heap.size) (h : BnsAt B w a len cap ns) :
    Calls Tryd.prog 74 #[.slice a len cap] w fun e w' => BoolIs (twiceN ns) e ∧ Below w.heap.size w w' := by
  have HN := Go.Lib.hid h
  have hlen : ns.length = len := h.1
  have hm := Nat.le_trans h.2.1 h.2.2.1
  unfold maxLen at hm
  clear h
  have hmm := run_makeMapN len w
  go_enter Tryd.func74, Tryd.ntmps74
  go_wp2_with fail
  go_loopw [11] (fun i wr => ∃ k : Nat, k ≤ len ∧ i = .int .i64 k ∧ (∀ x y : Nat, y < x → x < k → ns.getD x default ≠ ns.getD y default) ∧ SetMap 67 w.heap.size k (InK ns k) wr ∧ Below w.heap.size w wr) (fun i _ => len - (intOf i).toNat)
  case atStart => exact ⟨0, by omega, rfl, fun x y _ h => by omega, (SetMap.made _ _).iff (fun z => by constructor; exact fun h => h.elim; rintro ⟨y, hy, -⟩; omega), (Below.refl _ _).alloc (Nat.le_refl _) _⟩
  case round =>
    obtain ⟨k, hk, rfl, hno, hset, hBk⟩ := hrel
    have HNO := Go.Lib.hid hno
    have HS := Go.Lib.hid hset
    have HB := Go.Lib.hid hBk
    clear hno hBk hset
    by_cases hkl : k < len
    · have hki : (k : Int) < len := by omega
      obtain ⟨x, b, off, hx, hok, rfl, hbB, c0, c1, c2⟩ := bn_at (HN.out.below (HB.out.mono hBw)) hkl
      obtain ⟨kl, hkl'⟩ := keyOf_bn x hok
      have HKL := Go.Lib.hid hkl'
      have HKN := Go.Lib.hid (show keyOf Tryd.prog 67 (bnAgg (ns.getD k default)) = some kl by rw [← hx]; exact hkl')
      clear hx hok hkl'
      go_upto_region 5 with fail
      refine code_gen (R := fun wb => wb.heap[wr.heap.size]? = some (.cells #[.int .i64 x.v, .int .i64 x.lo, .int .i64 x.hi] 67 (0, 0)) ∧ SetMap 67 w.heap.size k (InK ns k) wb ∧ Below w.heap.size w wb) ⟨by first | exact (MapKept.heap_alloc _ _).1 | exact heap_alloc_new _ _, HS.out.below (by go_grown), HB.out.trans (Below.mono (show Below wr.heap.size wr _ by go_grown) HB.out.size)⟩ ?_
      rintro wb ⟨k1, hsb, hBb⟩
      have HSB := Go.Lib.hid hsb
      have HBB := Go.Lib.hid hBb
      have z0 := cell_of_block (i := 0) k1 (v := .int .i64 x.v) rfl
      have z1 := cell_of_block (i := 1) k1 (v := .int .i64 x.lo) rfl
      have z2 := cell_of_block (i := 2) k1 (v := .int .i64 x.hi) rfl
      clear hsb hBb c0 c1 c2 k1
      obtain ⟨c, hrun, hc⟩ := HSB.out.look bnK mapNB HKL.out
      have HC := Go.Lib.hid hc
      clear hc
      cases c
      · go_wp2_with (first | (at_mapUpdate; refine wpList_set_store _ rfl _ _ _ 105 rfl 67 bnK mapNB _ k _ rfl HSB.out (by unfold maxLen; omega) _ _ rfl rfl HKL.out ?_; intro w1 hs1 hg1) | go_in)
        go_roundw
        case rel => exact ⟨k + 1, by omega, by go_num, fun x y hy hx => by
            rcases Nat.lt_or_ge x k with h | h
            · exact HNO.out x y hy h
            · obtain rfl : x = k := by omega
              intro e
              exact absurd (HC.out.2 ⟨y, hy, by rw [← e]; exact HKN.out⟩) (by simp), hs1.iff (inK_next HKN.out), grown_below HBB.out (Nat.le_refl _) hg1 HBB.out.size⟩
        case measure => simp [intOf]; omega
      · go_wp2_with fail
        go_ret
        exact ⟨BoolIs.yes (by
          obtain ⟨y, hy, e⟩ := HC.out.1 (by trivial)
          exact ⟨k, y, hy, by omega, bnAgg_inj (bnK.inj HKN.out e)⟩), HBB.out⟩
    · have hki : ¬ (k : Int) < len := by omega
      go_wp2_with fail
      go_ret
      exact ⟨BoolIs.no (by rintro ⟨x, y, hy, hx, he⟩; exact HNO.out x y hy (by omega) he), HB.out⟩

set_option maxHeartbeats 8000000 in
theorem c_BddOkI {B : Nat} {a : Option Addr} {len cap : Nat} {ns : List BN} (vars root : Int) (w : World) (hBw : B ≤ w.heap.size) (h : BnsAt B w a len cap ns) :
    Calls Tryd.prog 31 #[.agg #[.int .i64 vars, .slice a len cap, .int .i64 root]] w fun e w' => BoolIs (OkB vars ns root) e ∧ Below w.heap.size w w' := by
  have HN := Go.Lib.hid h
  have hnl : ns.length = len := h.1
  have HNL := Go.Lib.hid hnl
  have hlm := Nat.le_trans h.2.1 h.2.2.1
  unfold maxLen at hlm
  clear h hnl
  go_enter Tryd.func31, Tryd.ntmps31
  go_upto_region 1 with fail
  refine code_gen (R := fun wb => BBox vars a len cap root w wb) (BBox.new _ _ _ _ _ _) ?_
  intro w0 hbox
  have HX0 := Go.Lib.hid hbox
  obtain ⟨x0, x1, x2⟩ := hbox.cells
  have HN0 := Go.Lib.hid (HN.out.below (hbox.bel.mono hBw))
  have hB0 : B ≤ w0.heap.size := Nat.le_trans hBw hbox.bel.size
  clear hbox
  have call1 : Calls Tryd.prog 45 #[.int .i64 vars] w0 fun e w' => e = .returned (.bool (varsB vars)) ∧ w0 = w' := (c_bddVarsOk vars w0).mono fun e w' ⟨h1, h2⟩ => ⟨h1, h2.symm⟩
  have C1 := Go.Lib.hid call1
  clear call1
  cases hv : varsB vars with
  | false =>
    rw [hv] at C1
    have HV := Go.Lib.hid hv
    clear hv
    go_wp2_with fail
    refine C1.out.mono ?_
    rintro e w' ⟨rfl, rfl⟩
    go_wp2_with fail
    go_ret
    exact ⟨BoolIs.no (fun h => by have := of_decide_eq_false HV.out; exact this h.hv), HX0.out.bel⟩
  | true =>
  rw [hv] at C1
  have HV := Go.Lib.hid hv
  clear hv
  by_cases hl : len ≤ 600
  rotate_left
  · have hli : ¬ (len : Int) ≤ 600 := by omega
    go_wp2_with fail
    refine C1.out.mono ?_
    rintro e w' ⟨rfl, rfl⟩
    go_wp2_with fail
    go_ret
    exact ⟨BoolIs.no (fun h => by have := h.len; have := HNL.out; omega), HX0.out.bel⟩
  have hli : (len : Int) ≤ 600 := by omega
  have C2 := Go.Lib.hid ((c_isAhead root len (by omega) (by omega) w0).mono fun e w' (⟨h1, h2⟩ : _ ∧ w' = w0) => (⟨h1, h2.symm⟩ : _ ∧ w0 = w'))
  cases hr : aheadB root len with
  | false =>
    rw [hr] at C2
    have HR := Go.Lib.hid hr
    clear hr
    go_wp2_with fail
    refine C1.out.mono ?_
    rintro e w' ⟨rfl, rfl⟩
    go_wp2_with fail
    refine C2.out.mono ?_
    rintro e w' ⟨rfl, rfl⟩
    go_wp2_with fail
    go_ret
    exact ⟨BoolIs.no (fun h => by have := of_decide_eq_false HR.out; have h2 := h.hr; have := HNL.out; omega), HX0.out.bel⟩
  | true =>
  rw [hr] at C2
  have hrr := of_decide_eq_true hr
  have hr0 := hrr.1
  have hr1 : root ≤ (len : Int) + 1 := by have := hrr.2; omega
  clear hr hrr
  go_wp2_with fail
  refine C1.out.mono ?_
  rintro e w' ⟨rfl, rfl⟩
  go_wp2_with fail
  refine C2.out.mono ?_
  rintro e w' ⟨rfl, rfl⟩
  go_wp2_with fail
  refine (c_bddNodesOk (B := B) vars root w0 hB0 HN0.out hl).mono ?_
  rintro e w1 ⟨hb, hq⟩
  have HX1 := Go.Lib.hid (HX0.out.below hq)
  have HN1 := Go.Lib.hid (HN0.out.below (hq.mono hB0))
  have hB1 : B ≤ w1.heap.size := Nat.le_trans hB0 hq.size
  clear hq x0 x1 x2
  obtain ⟨x0, x1, x2⟩ := HX1.out.cells
  by_cases hf : ∀ k, k < len → nFine vars ns k
  rotate_left
  · obtain rfl := boolIs_f hf hb
    have HF := Go.Lib.hid hf
    clear hf hb
    go_wp2_with fail
    go_ret
    exact ⟨BoolIs.no (fun h => HF.out (fun k hk => h.fine k (by have := HNL.out; omega))), HX1.out.bel⟩
  obtain rfl := boolIs_t hf hb
  have HF := Go.Lib.hid hf
  clear hf hb
  go_wp2_with fail
  refine (c_hasNodeTwice (B := B) w1 hB1 HN1.out).mono ?_
  rintro e w2 ⟨hb, hq⟩
  have HX2 := Go.Lib.hid (HX1.out.below hq)
  have HN2 := Go.Lib.hid (HN1.out.below (hq.mono hB1))
  have hB2 : B ≤ w2.heap.size := Nat.le_trans hB1 hq.size
  clear hq x0 x1 x2
  obtain ⟨x0, x1, x2⟩ := HX2.out.cells
  by_cases ht : twiceN ns
  · obtain rfl := boolIs_t ht hb
    have HT := Go.Lib.hid ht
    clear ht hb
    go_wp2_with fail
    go_ret
    exact ⟨BoolIs.no (fun h => by obtain ⟨x, y, h1, h2, h3⟩ := HT.out; exact h.once x y h1 h2 h3), HX2.out.bel⟩
  obtain rfl := boolIs_f ht hb
  have HT := Go.Lib.hid ht
  clear ht hb
  go_wp2_with fail
  refine (c_nodesInOrder (B := B) vars root w2 hB2 HN2.out hl (fun k hk => HF.out k (by have := HNL.out; omega)) hr0 hr1).mono ?_
  rintro e w3 ⟨hb, hq⟩
  have HX3 := Go.Lib.hid (HX2.out.below hq)
  clear hq x0 x1 x2
  by_cases ho : ordP ns root
  · obtain rfl := boolIs_t ho hb
    have HO := Go.Lib.hid ho
    clear ho hb
    go_wp2_with fail
    go_ret
    exact ⟨BoolIs.yes ⟨of_decide_eq_true HV.out, by have := HNL.out; omega, by have := HNL.out; omega, fun k hk => HF.out k (by have := HNL.out; omega), fun x y h1 h2 h3 => HT.out ⟨x, y, h1, h2, h3⟩, HO.out⟩, HX3.out.bel⟩
  · obtain rfl := boolIs_f ho hb
    have HO := Go.Lib.hid ho
    clear ho hb
    go_wp2_with fail
    go_ret
    exact ⟨BoolIs.no (fun h => HO.out h.order), HX3.out.bel⟩
end Go.Proofs.YthdofdglbdfkkaaDoor
