/-
  A new forest; the diagram at a place of one.
-/
import Derived.Test.YthdofdglbdfkkaaDoorRows
import Derived.Test.YthdofdglbdfkkaaDoorG0
import Derived.Test.YthdofdglbdfkkaaDoorFoS
import Derived.WalkKit
import Derived.ProofKit
import Derived.OpenShut
import Derived.WalkSpells
import Derived.WalkLawsBesides
import Derived.Outline
import Derived.BigQuiet
import Derived.Handy
import Derived.LoopTactic
import Derived.Deep.Light
import Derived.Deep.RegionWith
import Derived.Deep.RegionHeld3
import Derived.Deep.DeepCutAuto
import Derived.Lib.Hide
import Derived.Maps.OwnRows
import Derived.Deep.Onto
import Derived.OneCell
import Derived.StillTailTactics
import Derived.Deep.AppendLies
import Derived.Deep.RegionLaw
namespace Go.Proofs.YthdofdglbdfkkaaDoor
open Go.ChangeShapes Go.WideShapes Go.ChangeAt Go.RowKit Go.Maps Go.ChangeMaps
set_option linter.unusedVariables false
set_option maxRecDepth 100000

theorem wpList_int_insert {ops : Array Oper} {rest : List Oper} {o : Oper} {a : Act} {Q : Exit → Act → World → Prop} (w : World)
    (hg : o.guard = none) (m x v : Operand) (t : TypeId) (hop : o.op = Op.insert t m x v) (k : TypeId) (K : Keyed Tryd.prog k) (ht : Tryd.prog.underlying t = some (.map k 3)) (b n : Nat) (R : Lit → Int → Prop)
    (hm : a.eval m = .map (some b)) (hs : IntMap k b n R w) (hn : n < maxLen) (key : Value) (kl : Lit) (z : Int) (hz : fits z) (hx : a.eval x = key) (hv : a.eval v = .int .i64 z) (hkey : keyOf Tryd.prog k key = some kl)
    (hK : ∀ w', IntMap k b (n + 1) (fun q y => (q = kl ∧ y = z) ∨ (q ≠ kl ∧ R q y)) w' → w.grownBy w' (some b) → wpList Tryd.prog ops Q rest (a.put o.dst undef) w') : wpList Tryd.prog ops Q (o :: rest) a w := by
  refine wpList_plain hg fun K' hK' => ?_
  obtain ⟨w', hrun, r1, r2⟩ := hs.store K ht hn hkey hz
  have hi : (execOp a.eval o).run Tryd.prog w = ((Instr.mapUpdate t (.map (some b)) key (.int .i64 z)).run Tryd.prog w).andThen (fun _ w => .ok .skip w) := by
    simp [execOp, hop, hm, hx, hv]
  unfold Oper.wp
  rw [hi, hrun]
  exact hK' _ _ (hK w' r1 r2)

set_option maxHeartbeats 4000000 in
theorem c_newForest (vars : Int) (w : World) :
    Calls Tryd.prog 94 #[] w fun e w' => e = .returned (.pointer (some ⟨w.heap.size + 2, 0, none⟩)) ∧ ForestAt vars (w.heap.size + 2) w.heap.size (w.heap.size + 1) (.slice none 0 0) [] 0 w' ∧ Below w.heap.size w w' := by
  have hmm1 := @run_makeMap Tryd.prog
  go_enter Tryd.func94, Tryd.ntmps94
  go_wp2_with fail
  go_ret
  have e1 : (w.alloc (.map #[] 0)).heap.size = w.heap.size + 1 := by show (w.heap.push _).size = _; simp
  have e2 : ((w.alloc (.map #[] 0)).alloc (.map #[] 0)).heap.size = w.heap.size + 2 := by show ((w.heap.push _).push _).size = _; simp
  refine ⟨rfl, ⟨?_, OwnN.nil _ _, ?_, ⟨fun _ _ => False, ?_, fun _ _ h => h.elim⟩, Frs.nil _, by omega⟩, by go_grown⟩
  · rw [← e2]; exact (MapKept.heap_alloc _ _).1
  · refine IntMap.iff (R := fun _ _ => False) (IntMap.of_block (IntMap.made 67 w) ?_) (fun q z => ⟨fun h => h.elim, fun ⟨k, hk, _⟩ => by simp at hk⟩)
    rw [Below.heap_alloc _ _ _ (by rw [e2]; omega), Below.heap_alloc _ _ _ (by rw [e1]; omega)]
  · have := IntMap.made 99 (w.alloc (.map #[] 0))
    rw [e1] at this
    exact this.of_block (Below.heap_alloc _ _ _ (by rw [e2]; omega))

def DiagQ (vars : Int) (t : DT) (w : World) (e : Ending) (w' : World) : Prop :=
  (∃ x ms R, e = .returned (.agg #[.int .i64 vars, x, .int .i64 R]) ∧ OwnN w' w.heap.size x ms ∧ Adds t [] ms R ∧ ms.length ≤ 600 ∧ Below w.heap.size w w') ∨
  (∃ u y, e = .panicked [{ v := .iface u y, recovered := false }] ∧ Below w.heap.size w w' ∧ ∀ ms m, Adds t [] ms m → 600 < ms.length)
theorem pick_start {vars : Int} {B qb mb : Nat} {fa : Option Addr} {fc : Nat} {F : List BN} {w : World} (hb : w.heap[qb]? = some (.cells #[.slice fa F.length fc, .slice none 0 0, .map (some mb)] 111 (0, 0))) (hs : BnsAt B w fa F.length fc F) (hF : Frs vars F) (lq : B ≤ qb) (lm : B ≤ mb) (b0 : 0 < B) (hg : ∃ u x, w.cell? ⟨0, 0, none⟩ = some (.iface u x))
    (hm : IntMap 3 mb 2 (fun q y => (q = .int .i64 1 ∧ y = 1) ∨ (q ≠ .int .i64 1 ∧ ((q = .int .i64 0 ∧ y = 0) ∨ (q ≠ .int .i64 0 ∧ False)))) w) : PickAt vars B qb mb fa fc F (.slice none 0 0) [] w := by
  refine ⟨hb, hs, OwnN.nil _ _, hm.iff (fun q z => ⟨?_, ?_⟩), Frs.nil _, hF, lq, lm, b0, hg⟩
  · rintro (⟨rfl, rfl⟩ | ⟨-, ⟨rfl, rfl⟩ | ⟨-, h⟩⟩)
    · exact ⟨1, _, rfl, .yes, .yes⟩
    · exact ⟨0, _, rfl, .no, .no⟩
    · exact h.elim
  · rintro ⟨p, t, rfl, h1, h2⟩
    have hz := h2.rng
    simp only [List.length_nil] at hz
    cases t with
    | leaf b =>
      have e1 := h1.small
      have e2 := h2.small
      cases b with
      | true => subst e1; subst e2; exact .inl ⟨rfl, rfl⟩
      | false => subst e1; subst e2; exact .inr ⟨by simp, .inl ⟨rfl, rfl⟩⟩
    | node v l h =>
      obtain ⟨k, hk, -⟩ := h2.split
      simp at hk

set_option maxHeartbeats 8000000 in
theorem c_diagram {vars : Int} {fb mb pb : Nat} {v : Value} {F : List BN} {np : Nat} {p k : Int} {t : DT} (hv13 : vars ≤ 13) (hF6 : F.length ≤ 1000000) (w : World) (h : ForestAt vars fb mb pb v F np w) (ht : TreeOf F p t) (hk : 0 ≤ k) (hr : t.Red vars k) (hg : ∃ u x, w.cell? ⟨0, 0, none⟩ = some (.iface u x)) :
    Calls Tryd.prog 95 #[.pointer (some ⟨fb, 0, none⟩), .int .i64 vars, .int .i64 p] w (DiagQ vars t w) := by
  have HF := Go.Lib.hid h
  have HT := Go.Lib.hid ht
  have HK := Go.Lib.hid hk
  have HR := Go.Lib.hid hr
  have HG := Go.Lib.hid hg
  have hmm1 := @run_makeMap Tryd.prog
  obtain ⟨fa, fc, rfl, hbn⟩ := h.bns
  have HBN := Go.Lib.hid hbn
  have f0 := cell_of_block (i := 0) h.blk (v := .slice fa F.length fc) rfl
  have hfl := h.lt (.inl rfl)
  have HV13 := Go.Lib.hid hv13
  have HF6 := Go.Lib.hid hF6
  clear h ht hk hr hg hbn
  go_enter Tryd.func95, Tryd.ntmps95
  go_upto_region 1 with fail
  refine code_gen (R := fun wb => wb.heap[w.heap.size]? = some (.cells #[.int .i64 0, .slice none 0 0, .int .i64 0] 25 (0, 0)) ∧ Below w.heap.size w wb ∧ wb.heap.size = w.heap.size + 1) ⟨by first | exact (MapKept.heap_alloc _ _).1 | exact heap_alloc_new _ _, by go_grown, by show (w.heap.push _).size = _; simp⟩ ?_
  rintro w1 ⟨k1, hb1, hs1⟩
  have HK1 := Go.Lib.hid k1
  have HB1 := Go.Lib.hid hb1
  have HS1 := Go.Lib.hid hs1
  have f1 := keepc hb1 hfl f0
  clear k1 hb1 f0 hfl hs1
  obtain ⟨B, hB⟩ : ∃ B, w1.heap.size = B := ⟨_, rfl⟩
  have HBB := Go.Lib.hid hB
  clear hB
  go_upto_region 2 with (first | (refine wpList_int_insert _ rfl _ _ _ 109 rfl 3 intK Tryd.underlying109 _ 0 _ rfl (IntMap.made 3 w1) (by unfold maxLen; omega) _ _ 0 (fits_small (by omega) (by omega)) rfl rfl (keyOf_int_mk Tryd.underlying3 (fits_small (by omega) (by omega))) ?_; intro w2 hs2 hg2) | (refine wpList_int_insert _ rfl _ _ _ 109 rfl 3 intK Tryd.underlying109 _ 1 _ rfl hs2 (by unfold maxLen; omega) _ _ 1 (fits_small (by omega) (by omega)) rfl rfl (keyOf_int_mk Tryd.underlying3 (fits_small (by omega) (by omega))) ?_; intro w3 hs3 hg3))
  have hb3 : Below w.heap.size w w3 := by
    have h1 : Below w.heap.size w w1 := HB1.out
    have h2 : Below w.heap.size w (w1.alloc (.map #[] 0)) := h1.alloc h1.size _
    have h3 := h2.grown hg2 (Nat.le_trans h1.size (Nat.le_of_lt (alloc_ltS _ _))) (fun k hk => by cases hk; exact h1.size)
    exact h3.grown hg3 (Nat.le_trans h2.size hg2.size) (fun k hk => by cases hk; exact h1.size)
  have hl3 : w1.heap.size < w3.heap.size := hs3.lt
  have hk3 : w3.heap[w.heap.size]? = some (.cells #[.int .i64 0, .slice none 0 0, .int .i64 0] 25 (0, 0)) := by
    have hne : (some w.heap.size : Option Nat) ≠ some w1.heap.size := fun e => by have := HS1.out; injection e with e; omega
    have hlt : w.heap.size < w1.heap.size := by have := HS1.out; omega
    have e1 := hg3.block w.heap.size (Nat.lt_of_lt_of_le (Nat.lt_trans hlt (alloc_ltS w1 (.map #[] 0))) hg2.size) hne
    have e2 := hg2.block w.heap.size (Nat.lt_trans hlt (alloc_ltS w1 (.map #[] 0))) hne
    exact e1.trans (e2.trans ((Below.heap_alloc w1 _ _ hlt).trans HK1.out))
  have HB3 := Go.Lib.hid hb3
  have HL3 := Go.Lib.hid hl3
  have HK3 := Go.Lib.hid hk3
  have HM3 := Go.Lib.hid hs3
  clear hb3 hl3 hk3 hs3 hs2 hg2 hg3 f1 hmm1
  obtain ⟨mb', hmb⟩ : ∃ m, w1.heap.size = m := ⟨_, rfl⟩
  rw [hmb] at HM3 HL3 HS1 ⊢
  have e4 : (w3.alloc (.cells #[.slice fa F.length fc, .slice none 0 0, .map (some mb')] 111)).heap.size = w3.heap.size + 1 := by show (w3.heap.push _).size = _; simp
  have hbb0 : Below w.heap.size w (w3.alloc (.cells #[.slice fa F.length fc, .slice none 0 0, .map (some mb')] 111)) := HB3.out.alloc HB3.out.size _
  refine code_gen (R := fun wb => wb.heap[w.heap.size]? = some (.cells #[.int .i64 0, .slice none 0 0, .int .i64 0] 25 (0, 0)) ∧ PickAt vars (w.heap.size + 1) w3.heap.size mb' fa fc F (.slice none 0 0) [] wb ∧ Below w.heap.size w wb) ⟨?_, ?_, ?_⟩ ?_
  · exact (Below.heap_alloc _ _ _ (by have := HL3.out; have := HS1.out; omega)).trans HK3.out
  · refine pick_start (MapKept.heap_alloc _ _).1 ?_ HF.out.frs (by have := HL3.out; have := HS1.out; omega) (by have := HS1.out; omega) (by omega) ?_ (HM3.out.of_block (Below.heap_alloc _ _ _ HL3.out))
    · exact RowsAt.mono (RowsAt.below HBN.out hbb0) (Nat.le_succ _)
    · obtain ⟨u, x, hgl⟩ := HG.out
      exact ⟨u, x, keepc hbb0 (Nat.lt_of_le_of_lt (Nat.zero_le _) (HF.out.lt (.inl rfl))) hgl⟩
  · exact hbb0
  clear hbb0 HB3 HM3 HK3 HK1 HB1 hmb e4
  rintro w4 ⟨k4, hp4, hb4⟩
  have HK4 := Go.Lib.hid k4
  have HP4 := Go.Lib.hid hp4
  have HB4 := Go.Lib.hid hb4
  clear k4 hp4 hb4
  go_wp2_with fail
  refine (c_pick HV13.out HF6.out t p k _ [] w4 HP4.out HT.out HK.out HR.out (by simp)).mono ?_
  rintro e w5 (⟨m, v5, ms5, rfl, hp5, ha5, hl5, hs5⟩ | ⟨u, y, rfl, hb5, hno5⟩)
  rotate_left
  · have HB5 := Go.Lib.hid (HB4.out.trans (hb5.mono (Nat.le_succ _)))
    have HN5 := Go.Lib.hid hno5
    clear hb5 hno5
    go_wp2_with fail
    exact ⟨rfl, .inr ⟨u, y, rfl, HB5.out, HN5.out⟩⟩
  have hbb := HP4.out.step hs5
  have HB5 := Go.Lib.hid (HB4.out.trans (hbb.mono (Nat.le_succ _)))
  have HK5 := Go.Lib.hid ((hbb.block _ (Nat.lt_succ_self _)).trans HK4.out)
  have HA5 := Go.Lib.hid ha5
  have HL5 := Go.Lib.hid hl5
  have HO5 := Go.Lib.hid hp5.own
  obtain ⟨va, vc, rfl, -⟩ := OwnN.form hp5.own
  have q1 := cell_of_block (i := 1) hp5.blk (v := .slice va ms5.length vc) rfl
  have z0 := cell_of_block (i := 0) HK5.out (v := .int .i64 0) rfl
  have z1 := cell_of_block (i := 1) HK5.out (v := .slice none 0 0) rfl
  have z2 := cell_of_block (i := 2) HK5.out (v := .int .i64 0) rfl
  have r0 := free_of_block (i := 0) HK5.out
  have r1 := free_of_block (i := 1) HK5.out
  have r2 := free_of_block (i := 2) HK5.out
  clear hp5 ha5 hl5 hs5 hbb
  go_wp2_with fail
  refine bodyPost_ret (v := .agg #[.int .i64 vars, .slice va ms5.length vc, .int .i64 m]) (results_cell_row rfl _ _ w.heap.size 25 _ (0, 0) _ rfl (heap_setCell_same _ _ 2 _ _ _ (heap_setCell_same _ _ 1 _ _ _ (heap_setCell_same _ _ 0 _ _ _ HK5.out))) Tryd.underlying25 rfl (by kernel_rfl)) rfl (.inl ⟨_, ms5, m, rfl, ?_, HA5.out, HL5.out, ?_⟩)
  · exact (HO5.out.mono (Nat.le_succ _)).block (fun y h1 _ h2 => by
      have h3 := (HO5.out.1.lt y h2).1
      rw [heap_setCell_other _ _ _ _ (by show y ≠ w.heap.size; omega), heap_setCell_other _ _ _ _ (by show y ≠ w.heap.size; omega), heap_setCell_other _ _ _ _ (by show y ≠ w.heap.size; omega)])
  · exact ((HB5.out.setCell (p := ⟨w.heap.size, 0, none⟩) (Nat.le_refl _) _).setCell (p := ⟨w.heap.size, 1, none⟩) (Nat.le_refl _) _).setCell (p := ⟨w.heap.size, 2, none⟩) (Nat.le_refl _) _
end Go.Proofs.YthdofdglbdfkkaaDoor
