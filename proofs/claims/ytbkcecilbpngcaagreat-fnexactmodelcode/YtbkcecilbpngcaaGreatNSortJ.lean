/-
  The sort of a node: the program, whole.
-/
import Derived.Test.YtbkcecilbpngcaaGreatRows
import Derived.Test.YtbkcecilbpngcaaGreatPaA
import Derived.Test.YtbkcecilbpngcaaGreatNodeM
import Derived.Test.YtbkcecilbpngcaaGreatNames
import Derived.Test.YtbkcecilbpngcaaGreatFieldsS
import Derived.Test.YtbkcecilbpngcaaGreatNodeL
import Derived.Test.YtbkcecilbpngcaaGreatResP
import Derived.Test.YtbkcecilbpngcaaGreatNSortS
import Derived.Test.YtbkcecilbpngcaaGreatNSortI
import Derived.Test.YtbkcecilbpngcaaGreatPartsI
import Derived.Test.YtbkcecilbpngcaaGreatPaD
import Derived.Test.YtbkcecilbpngcaaGreatKSortP
import Derived.Test.YtbkcecilbpngcaaGreatKSortA
import Derived.Test.YtbkcecilbpngcaaGreatKSortB
import Derived.Test.YtbkcecilbpngcaaGreatKSortC
import Derived.Test.YtbkcecilbpngcaaGreatKSortD
import Derived.WalkKit
import Derived.ProofKit
import Derived.OpenShut
import Derived.WalkSpells
import Derived.WalkLawsBesides
import Derived.Outline
import Derived.BigQuiet
import Derived.Handy
import Derived.LoopTactic
import Derived.Deep.Light
import Derived.Deep.RegionWith
import Derived.Deep.RegionHeld3
import Derived.Lib.Hide
import Derived.Deep.DeepCutAuto
namespace Go.Proofs.YtbkcecilbpngcaaGreat
open Go.ChangeShapes Go.WideShapes Go.ChangeAt Go.RowKit
set_option linter.unusedVariables false

theorem c_kindSort (x : ND) (hp : 0 ≤ pcN x.kind) (a b c : Int × Int) (w : World) :
    Calls Tryz.prog 97 #[.agg x.cells.toArray, .agg #[.int .i64 a.1, .int .i64 a.2, .int .i64 b.1, .int .i64 b.2, .int .i64 c.1, .int .i64 c.2]] w (ResP x a b c w) := by
  have hk : (1 ≤ x.kind ∧ x.kind ≤ 32 ∧ x.kind ≠ 21) ∨ x.kind = 21 ∨ x.kind = 33 ∨ x.kind = 34 ∨ x.kind = 35 ∨ x.kind = 36 ∨ x.kind = 37 ∨ x.kind = 38 := by unfold pcN at hp; (repeat' split at hp) <;> omega
  rcases hk with ⟨h1, h2, h3⟩ | h | h | h | h | h | h | h
  · exact c_ksWords x h1 h2 h3 a b c w
  · exact c_ks21 x h a b c w
  · exact c_ks33 x h a b c w
  · exact c_ks34 x h a b c w
  · exact c_ks35 x h a b c w
  · exact c_ks36 x h a b c w
  · exact c_ks37 x h a b c w
  · exact c_ks38 x h a b c w
theorem c_partSorts {B : Nat} {a : Option Addr} {len cap : Nat} {ns : List ND} (x : ND) (w : World) (hBw : B ≤ w.heap.size) (h : NodesAt B w a len cap ns) (hpt : ptsOk len x) (hp : 0 ≤ pcN x.kind) :
    Calls Tryz.prog 98 #[.slice a len cap, .agg x.cells.toArray] w fun e w' => e = .returned (sorts3 ns x) ∧ Below w.heap.size w w' := by
  rcases pcN_cases x.kind with e | e | e | e | e
  · omega
  · exact c_partSorts0 x w hBw h hpt e
  · exact c_partSorts1 x w hBw h hpt e
  · exact c_partSorts2 x w hBw h hpt e
  · exact c_partSorts3 x w hBw h hpt e
theorem nOk_iff (ns : List ND) (x : ND) : nOk ns x ↔ ns.length ≤ 60 ∧ prtOk ns x ∧ numOk x ∧ nmOk x = true ∧ kOk x (srt ns x 0) (srt ns x 1) (srt ns x 2) :=
  ⟨fun ⟨a, b, c, d, e, f, g⟩ => ⟨a, ⟨b, c, d⟩, e, f, g⟩, fun ⟨a, ⟨b, c, d⟩, e, f, g⟩ => ⟨a, b, c, d, e, f, g⟩⟩
theorem set2_0 {w : World} {g : Nat} {u v x : Value} (h : w.cell? ⟨g, 0, none⟩ = some x) : ((w.setCell ⟨g, 0, none⟩ u).setCell ⟨g, 1, none⟩ v).cell? ⟨g, 0, none⟩ = some u := by
  rw [World.cell?_setCell_other _ _ _ _ (by simp)]; exact World.cell?_setCell_same _ _ _ h
theorem set2_1 {w : World} {g : Nat} {u v x : Value} (h : w.cell? ⟨g, 1, none⟩ = some x) : ((w.setCell ⟨g, 0, none⟩ u).setCell ⟨g, 1, none⟩ v).cell? ⟨g, 1, none⟩ = some v := by
  have h2 : (w.setCell ⟨g, 0, none⟩ u).cell? ⟨g, 1, none⟩ = some x := by rw [World.cell?_setCell_other _ _ _ _ (by simp)]; exact h
  exact World.cell?_setCell_same _ _ _ h2
theorem frozen2 (w : World) (A : Obj) (cs : Array Value) (t : TypeId) (i : Nat) : ((w.alloc A).alloc (.cells cs t)).frozen? ⟨w.heap.size + 1, i, none⟩ = false := by
  have e : (w.alloc A).heap.size = w.heap.size + 1 := by simp
  rw [← e]; exact frozen_of_new _ _ _ _
/-- Behind the look at a node's kind: a block of the call's own holds the sort. -/
def CutN (ns : List ND) (x : ND) (ok : Bool) (w : World) (s6 s7 : Value) (wx : World) : Prop :=
  ∃ (g : Nat) (i q : Int), s6 = .pointer (some ⟨g, 0, none⟩) ∧ s7 = .bool ok ∧ (w.heap.size ≤ g ∧ g < wx.heap.size) ∧ wx.cell? ⟨g, 0, none⟩ = some (.int .i64 i) ∧ wx.cell? ⟨g, 1, none⟩ = some (.int .i64 q) ∧ (kOk x (srt ns x 0) (srt ns x 1) (srt ns x 2) → (i, q) = kSort x (srt ns x 0) (srt ns x 1) (srt ns x 2)) ∧ Below w.heap.size w wx
set_option maxRecDepth 100000 in
set_option maxHeartbeats 8000000 in
theorem c_NodeSortI_long {a : Option Addr} {len cap : Nat} {ns : List ND} (x : ND) (w : World) (hl : ns.length = len) (hlen : len ≤ maxLen) (h60 : 60 < len) :
    Calls Tryz.prog 66 #[.slice a len cap, .agg x.cells.toArray] w (NSP ns x w) := by
  have HNO := Go.Lib.hid (show ¬ nOk ns x from fun h => by have := h.1; omega)
  unfold maxLen at hlen
  clear hl
  obtain ⟨k, pa, pb, pc, n, m, si, sw, nm⟩ := x
  simp only [ND.cells] at *
  go_enter Tryz.func66, Tryz.ntmps66
  go_wp2_with fail
  refine bodyPost_ret (v := .tuple #[.agg #[.int .i64 0, .int .i64 0], .bool false]) (by simp [results, Tryz.results66, go_sem]) rfl ?_
  exact nsp_no HNO.out (by go_grown)
set_option maxRecDepth 100000 in
set_option maxHeartbeats 8000000 in
theorem c_NodeSortI_parts {B : Nat} {a : Option Addr} {len cap : Nat} {ns : List ND} (x : ND) (hx : x.name.size ≤ maxLen) (w : World) (hBw : B ≤ w.heap.size) (h : NodesAt B w a len cap ns) (hlen : len ≤ 60) (hp : ¬ prtOk ns x) :
    Calls Tryz.prog 66 #[.slice a len cap, .agg x.cells.toArray] w (NSP ns x w) := by
  have HL := Go.Lib.hid h.1
  have HN := Go.Lib.hid h
  clear h
  have HNO := Go.Lib.hid (show ¬ nOk ns x from fun h => hp ((nOk_iff ns x).mp h).2.1)
  have hd : decide (prtOk ns x) = false := decide_eq_false hp
  clear hp
  obtain ⟨k, pa, pb, pc, n, m, si, sw, nm⟩ := x
  simp only [ND.cells] at *
  go_enter Tryz.func66, Tryz.ntmps66
  go_wp2_with fail
  refine (c_partsOk ⟨k, pa, pb, pc, n, m, si, sw, nm⟩ _ (Nat.le_trans hBw (by simp; omega)) (HN.out.below ((show Below w.heap.size w _ by go_grown).mono hBw))).mono ?_
  rintro e w1 ⟨rfl, hB1⟩
  have HB1 := Go.Lib.hid hB1
  clear hB1
  obtain ⟨hc1, hf1⟩ := bcell HB1.out
  have hz1 : w.heap.size + 1 < w1.heap.size := by have := HB1.out.size; simp at this; omega
  go_wp2_with fail
  refine bodyPost_ret (v := .tuple #[.agg #[.int .i64 0, .int .i64 0], .bool false]) (by simp [results, Tryz.results66, go_sem, hc1]) rfl ?_
  exact nsp_no HNO.out (below_two_set HB1.out)
set_option maxRecDepth 100000 in
set_option maxHeartbeats 8000000 in
theorem c_NodeSortI_num {B : Nat} {a : Option Addr} {len cap : Nat} {ns : List ND} (x : ND) (hx : x.name.size ≤ maxLen) (w : World) (hBw : B ≤ w.heap.size) (h : NodesAt B w a len cap ns) (hlen : len ≤ 60) (hp : prtOk ns x) (hq : ¬ numOk x) :
    Calls Tryz.prog 66 #[.slice a len cap, .agg x.cells.toArray] w (NSP ns x w) := by
  have HL := Go.Lib.hid h.1
  have HN := Go.Lib.hid h
  clear h
  have HNO := Go.Lib.hid (show ¬ nOk ns x from fun h => hq ((nOk_iff ns x).mp h).2.2.1)
  have hd : decide (prtOk ns x) = true := decide_eq_true hp
  have hd2 : decide (numOk x) = false := decide_eq_false hq
  clear hp hq
  obtain ⟨k, pa, pb, pc, n, m, si, sw, nm⟩ := x
  simp only [ND.cells] at *
  go_enter Tryz.func66, Tryz.ntmps66
  go_wp2_with fail
  refine (c_partsOk ⟨k, pa, pb, pc, n, m, si, sw, nm⟩ _ (Nat.le_trans hBw (by simp; omega)) (HN.out.below ((show Below w.heap.size w _ by go_grown).mono hBw))).mono ?_
  rintro e w1 ⟨rfl, hB1⟩
  have HB1 := Go.Lib.hid hB1
  clear hB1
  obtain ⟨hc1, hf1⟩ := bcell HB1.out
  have hz1 : w.heap.size + 1 < w1.heap.size := by have := HB1.out.size; simp at this; omega
  go_wp2_with fail
  refine (c_numbersOk ⟨k, pa, pb, pc, n, m, si, sw, nm⟩ _).mono ?_
  rintro e w2 ⟨rfl, hB2⟩
  have HB2 := Go.Lib.hid (bstep HB1.out (Nat.le_refl _) hB2)
  clear hB2 hc1 hf1
  obtain ⟨hc2, hf2⟩ := bcell HB2.out
  have hz2 : w.heap.size + 1 < w2.heap.size := by have := HB2.out.size; simp at this; omega
  go_wp2_with fail
  refine bodyPost_ret (v := .tuple #[.agg #[.int .i64 0, .int .i64 0], .bool false]) (by simp [results, Tryz.results66, go_sem, hc2]) rfl ?_
  exact nsp_no HNO.out (below_two_set HB2.out)
set_option maxRecDepth 100000 in
set_option maxHeartbeats 8000000 in
theorem c_NodeSortI_name {B : Nat} {a : Option Addr} {len cap : Nat} {ns : List ND} (x : ND) (hx : x.name.size ≤ maxLen) (w : World) (hBw : B ≤ w.heap.size) (h : NodesAt B w a len cap ns) (hlen : len ≤ 60) (hp : prtOk ns x) (hq : numOk x) (hr : nmOk x = false) :
    Calls Tryz.prog 66 #[.slice a len cap, .agg x.cells.toArray] w (NSP ns x w) := by
  have HL := Go.Lib.hid h.1
  have HN := Go.Lib.hid h
  clear h
  have HNO := Go.Lib.hid (show ¬ nOk ns x from fun h => by have := ((nOk_iff ns x).mp h).2.2.2.1; rw [hr] at this; cases this)
  have hd : decide (prtOk ns x) = true := decide_eq_true hp
  have hd2 : decide (numOk x) = true := decide_eq_true hq
  clear hp hq
  obtain ⟨k, pa, pb, pc, n, m, si, sw, nm⟩ := x
  simp only [ND.cells] at *
  go_enter Tryz.func66, Tryz.ntmps66
  go_wp2_with fail
  refine (c_partsOk ⟨k, pa, pb, pc, n, m, si, sw, nm⟩ _ (Nat.le_trans hBw (by simp; omega)) (HN.out.below ((show Below w.heap.size w _ by go_grown).mono hBw))).mono ?_
  rintro e w1 ⟨rfl, hB1⟩
  have HB1 := Go.Lib.hid hB1
  clear hB1
  obtain ⟨hc1, hf1⟩ := bcell HB1.out
  have hz1 : w.heap.size + 1 < w1.heap.size := by have := HB1.out.size; simp at this; omega
  go_wp2_with fail
  refine (c_numbersOk ⟨k, pa, pb, pc, n, m, si, sw, nm⟩ _).mono ?_
  rintro e w2 ⟨rfl, hB2⟩
  have HB2 := Go.Lib.hid (bstep HB1.out (Nat.le_refl _) hB2)
  clear hB2 hc1 hf1
  obtain ⟨hc2, hf2⟩ := bcell HB2.out
  have hz2 : w.heap.size + 1 < w2.heap.size := by have := HB2.out.size; simp at this; omega
  go_wp2_with fail
  refine (c_nodeNameOk ⟨k, pa, pb, pc, n, m, si, sw, nm⟩ hx _).mono ?_
  rintro e w3 ⟨rfl, hB3⟩
  have HB3 := Go.Lib.hid (bstep HB2.out (Nat.le_refl _) hB3)
  clear hB3 hc2 hf2
  obtain ⟨hc3, hf3⟩ := bcell HB3.out
  have hz3 : w.heap.size + 1 < w3.heap.size := by have := HB3.out.size; simp at this; omega
  go_wp2_with fail
  refine bodyPost_ret (v := .tuple #[.agg #[.int .i64 0, .int .i64 0], .bool false]) (by simp [results, Tryz.results66, go_sem, hc3]) rfl ?_
  exact nsp_no HNO.out (below_two_set HB3.out)
set_option maxRecDepth 100000 in
set_option maxHeartbeats 8000000 in
theorem c_NodeSortI_yes {B : Nat} {a : Option Addr} {len cap : Nat} {ns : List ND} (x : ND) (hx : x.name.size ≤ maxLen) (w : World) (hBw : B ≤ w.heap.size) (h : NodesAt B w a len cap ns) (hlen : len ≤ 60) (hp : prtOk ns x) (hq : numOk x) (hr : nmOk x = true) (hk : kOk x (srt ns x 0) (srt ns x 1) (srt ns x 2)) :
    Calls Tryz.prog 66 #[.slice a len cap, .agg x.cells.toArray] w (NSP ns x w) := by
  have HL := Go.Lib.hid h.1
  have HN := Go.Lib.hid h
  clear h
  have HOK := Go.Lib.hid (show nOk ns x from (nOk_iff ns x).mpr ⟨by have := HL.out; omega, hp, hq, hr, hk⟩)
  have HK := Go.Lib.hid hk
  have hdk : decide (kOk x (srt ns x 0) (srt ns x 1) (srt ns x 2)) = true := decide_eq_true hk
  have hd : decide (prtOk ns x) = true := decide_eq_true hp
  have hd2 : decide (numOk x) = true := decide_eq_true hq
  have HPP := Go.Lib.hid hp.1
  have HPT := Go.Lib.hid (show ptsOk len x from HL.out ▸ hp.2.1)
  clear hp hq hk
  obtain ⟨k, pa, pb, pc, n, m, si, sw, nm⟩ := x
  simp only [ND.cells] at *
  go_enter Tryz.func66, Tryz.ntmps66
  go_wp2_with fail
  refine (c_partsOk ⟨k, pa, pb, pc, n, m, si, sw, nm⟩ _ (Nat.le_trans hBw (by simp; omega)) (HN.out.below ((show Below w.heap.size w _ by go_grown).mono hBw))).mono ?_
  rintro e w1 ⟨rfl, hB1⟩
  have HB1 := Go.Lib.hid hB1
  clear hB1
  obtain ⟨hc1, hf1⟩ := bcell HB1.out
  have hz1 : w.heap.size + 1 < w1.heap.size := by have := HB1.out.size; simp at this; omega
  go_wp2_with fail
  refine (c_numbersOk ⟨k, pa, pb, pc, n, m, si, sw, nm⟩ _).mono ?_
  rintro e w2 ⟨rfl, hB2⟩
  have HB2 := Go.Lib.hid (bstep HB1.out (Nat.le_refl _) hB2)
  clear hB2 hc1 hf1
  obtain ⟨hc2, hf2⟩ := bcell HB2.out
  have hz2 : w.heap.size + 1 < w2.heap.size := by have := HB2.out.size; simp at this; omega
  go_wp2_with fail
  refine (c_nodeNameOk ⟨k, pa, pb, pc, n, m, si, sw, nm⟩ hx _).mono ?_
  rintro e w3 ⟨rfl, hB3⟩
  have HB3 := Go.Lib.hid (bstep HB2.out (Nat.le_refl _) hB3)
  clear hB3 hc2 hf2
  obtain ⟨hc3, hf3⟩ := bcell HB3.out
  have hz3 : w.heap.size + 1 < w3.heap.size := by have := HB3.out.size; simp at this; omega
  have hl3 : w.heap.size < w3.heap.size := by omega
  have y0 : w3.cell? ⟨w.heap.size, 0, none⟩ = some (.int .i64 k) := (hc3 w.heap.size 0 (by simp; omega)).trans (by simp)
  have y1 : w3.cell? ⟨w.heap.size, 1, none⟩ = some (.int .i64 pa) := (hc3 w.heap.size 1 (by simp; omega)).trans (by simp)
  have y2 : w3.cell? ⟨w.heap.size, 2, none⟩ = some (.int .i64 pb) := (hc3 w.heap.size 2 (by simp; omega)).trans (by simp)
  have y3 : w3.cell? ⟨w.heap.size, 3, none⟩ = some (.int .i64 pc) := (hc3 w.heap.size 3 (by simp; omega)).trans (by simp)
  have y4 : w3.cell? ⟨w.heap.size, 4, none⟩ = some (.int .i64 n) := (hc3 w.heap.size 4 (by simp; omega)).trans (by simp)
  have y5 : w3.cell? ⟨w.heap.size, 5, none⟩ = some (.int .i64 m) := (hc3 w.heap.size 5 (by simp; omega)).trans (by simp)
  have y6 : w3.cell? ⟨w.heap.size, 6, none⟩ = some (.int .i64 si) := (hc3 w.heap.size 6 (by simp; omega)).trans (by simp)
  have y7 : w3.cell? ⟨w.heap.size, 7, none⟩ = some (.int .i64 sw) := (hc3 w.heap.size 7 (by simp; omega)).trans (by simp)
  have y8 : w3.cell? ⟨w.heap.size, 8, none⟩ = some (.string nm) := (hc3 w.heap.size 8 (by simp; omega)).trans (by simp)
  have hbw3 : Below w.heap.size w w3 := below_two_of HB3.out
  have r0 : w3.cell? ⟨w.heap.size + 1, 0, none⟩ = some (.int .i64 0) := (hc3 (w.heap.size + 1) 0 (by simp)).trans (by simp)
  have f0 : w3.frozen? ⟨w.heap.size + 1, 0, none⟩ = false := (hf3 (w.heap.size + 1) 0 (by simp)).trans (frozen2 _ _ _ _ _)
  have r1 : w3.cell? ⟨w.heap.size + 1, 1, none⟩ = some (.int .i64 0) := (hc3 (w.heap.size + 1) 1 (by simp)).trans (by simp)
  have f1 : w3.frozen? ⟨w.heap.size + 1, 1, none⟩ = false := (hf3 (w.heap.size + 1) 1 (by simp)).trans (frozen2 _ _ _ _ _)
  clear hc3 hf3 hz1 hz2
  go_upto_region 3 with fail
  go_cut [6, 7] (fun s6 s7 wx => CutN ns ⟨k, pa, pb, pc, n, m, si, sw, nm⟩ true w3 s6 s7 wx)
  case first =>
    refine wp_region_held_drew (S := (fun w' => w'.cell? ⟨w.heap.size, 0, none⟩ = some (.int .i64 k) ∧ w'.cell? ⟨w.heap.size, 1, none⟩ = some (.int .i64 pa) ∧ w'.cell? ⟨w.heap.size, 2, none⟩ = some (.int .i64 pb) ∧ w'.cell? ⟨w.heap.size, 3, none⟩ = some (.int .i64 pc) ∧ w'.cell? ⟨w.heap.size, 4, none⟩ = some (.int .i64 n) ∧ w'.cell? ⟨w.heap.size, 5, none⟩ = some (.int .i64 m) ∧ w'.cell? ⟨w.heap.size, 6, none⟩ = some (.int .i64 si) ∧ w'.cell? ⟨w.heap.size, 7, none⟩ = some (.int .i64 sw) ∧ w'.cell? ⟨w.heap.size, 8, none⟩ = some (.string nm))) (by kernel_rfl) ?_ (fun hHeld => ?_)
    · exact ⟨keepc (by go_grown) hl3 y0, keepc (by go_grown) hl3 y1, keepc (by go_grown) hl3 y2, keepc (by go_grown) hl3 y3, keepc (by go_grown) hl3 y4, keepc (by go_grown) hl3 y5, keepc (by go_grown) hl3 y6, keepc (by go_grown) hl3 y7, keepc (by go_grown) hl3 y8⟩
    refine tL 0 (some 29) ?_
    refine tL 1 (some 30) ?_
    refine tL 2 (some 31) ?_
    refine wpAnyH_ready (rs := [3, 8]) (by kernel_rfl) (by simp) ?_
    refine AllReadyH.cons (o := _) rfl (fun K hK => ?_) ?_
    · go_simp
      refine (c_partSorts ⟨k, pa, pb, pc, n, m, si, sw, nm⟩ _ (Nat.le_trans hBw (by go_size)) (HN.out.below ((show Below w.heap.size w _ by go_grown).mono hBw)) HPT.out HPP.out).mono ?_; rintro e w5 ⟨rfl, hB5⟩; have hb5 : Below w3.heap.size w3 w5 := bstep (by go_grown) (Nat.le_refl _) hB5; have hbw5 : Below w.heap.size w w5 := bstep (by go_grown) (Nat.le_refl _) hB5; have HB5 := Go.Lib.hid hB5; clear hB5; have ht5 := hb5.size
      (try go_wp2_with fail)
      refine hK.out _ _ ?_ (fun hHeld => ?_)
      · exact ⟨keepc (by go_grown) hl3 y0, keepc (by go_grown) hl3 y1, keepc (by go_grown) hl3 y2, keepc (by go_grown) hl3 y3, keepc (by go_grown) hl3 y4, keepc (by go_grown) hl3 y5, keepc (by go_grown) hl3 y6, keepc (by go_grown) hl3 y7, keepc (by go_grown) hl3 y8⟩
      clear hK K
      (try simp only [Act.put, List.setIfInBounds_toArray, List.set_cons_zero, List.set_cons_succ])
      refine wpAnyH_ready (rs := [4, 8]) (by kernel_rfl) (by simp) ?_
      refine AllReadyH.cons (o := _) rfl (fun K hK => ?_) ?_
      · go_simp
        refine (c_kindSort ⟨k, pa, pb, pc, n, m, si, sw, nm⟩ HPP.out (srt ns ⟨k, pa, pb, pc, n, m, si, sw, nm⟩ 0) (srt ns ⟨k, pa, pb, pc, n, m, si, sw, nm⟩ 1) (srt ns ⟨k, pa, pb, pc, n, m, si, sw, nm⟩ 2) _).mono ?_; rintro e w6 ⟨i, q, rfl, hq, hB6⟩; have HQ := Go.Lib.hid hq; clear hq; have hb6 : Below w3.heap.size w3 w6 := bstep (by go_grown) (Nat.le_refl _) hB6; (try (have kA : w6.cell? ⟨w5.heap.size, 0, none⟩ = some (.int .i64 0) := (hB6.cell (p := ⟨w5.heap.size, 0, none⟩) (alloc_ltS _ _)).trans (World.cell?_alloc_new _ _ _ _); have kB : w6.cell? ⟨w5.heap.size, 1, none⟩ = some (.int .i64 0) := (hB6.cell (p := ⟨w5.heap.size, 1, none⟩) (alloc_ltS _ _)).trans (World.cell?_alloc_new _ _ _ _); have kC : w6.frozen? ⟨w5.heap.size, 0, none⟩ = false := (hB6.frozen (p := ⟨w5.heap.size, 0, none⟩) (alloc_ltS _ _)).trans (frozen_of_new _ _ _ _); have kD : w6.frozen? ⟨w5.heap.size, 1, none⟩ = false := (hB6.frozen (p := ⟨w5.heap.size, 1, none⟩) (alloc_ltS _ _)).trans (frozen_of_new _ _ _ _); have kE : w5.heap.size < w6.heap.size := Nat.lt_of_lt_of_le (alloc_ltS _ _) hB6.size)); (try (have hu5 : w3.heap.size < w5.heap.size := Nat.lt_of_lt_of_le (alloc_ltS w3.drew _) HB5.out.size; have kA : w6.cell? ⟨w3.heap.size, 0, none⟩ = some (.int .i64 0) := (hB6.cell (p := ⟨w3.heap.size, 0, none⟩) hu5).trans ((HB5.out.cell (p := ⟨w3.heap.size, 0, none⟩) (alloc_ltS w3.drew _)).trans (World.cell?_alloc_new w3.drew _ _ _)); have kB : w6.cell? ⟨w3.heap.size, 1, none⟩ = some (.int .i64 0) := (hB6.cell (p := ⟨w3.heap.size, 1, none⟩) hu5).trans ((HB5.out.cell (p := ⟨w3.heap.size, 1, none⟩) (alloc_ltS w3.drew _)).trans (World.cell?_alloc_new w3.drew _ _ _)); have kC : w6.frozen? ⟨w3.heap.size, 0, none⟩ = false := (hB6.frozen (p := ⟨w3.heap.size, 0, none⟩) hu5).trans ((HB5.out.frozen (p := ⟨w3.heap.size, 0, none⟩) (alloc_ltS w3.drew _)).trans (frozen_of_new w3.drew _ _ _)); have kD : w6.frozen? ⟨w3.heap.size, 1, none⟩ = false := (hB6.frozen (p := ⟨w3.heap.size, 1, none⟩) hu5).trans ((HB5.out.frozen (p := ⟨w3.heap.size, 1, none⟩) (alloc_ltS w3.drew _)).trans (frozen_of_new w3.drew _ _ _)); have kE : w3.heap.size < w6.heap.size := Nat.lt_of_lt_of_le hu5 hB6.size)); have HB6 := Go.Lib.hid hB6; clear hB6; have ht6 := hb6.size
        (try go_wp2_with fail)
        refine hK.out _ _ ?_ (fun hHeld => ?_)
        · exact ⟨keepc (by go_grown) hl3 y0, keepc (by go_grown) hl3 y1, keepc (by go_grown) hl3 y2, keepc (by go_grown) hl3 y3, keepc (by go_grown) hl3 y4, keepc (by go_grown) hl3 y5, keepc (by go_grown) hl3 y6, keepc (by go_grown) hl3 y7, keepc (by go_grown) hl3 y8⟩
        clear hK K
        (try simp only [Act.put, List.setIfInBounds_toArray, List.set_cons_zero, List.set_cons_succ])
        refine tL 5 (some 28) ?_
        refine tL 6 (some 34) ?_
        refine tL 7 (some 35) ?_
        refine wpAnyH_ready (rs := [8]) (by kernel_rfl) (by simp) ?_
        refine AllReadyH.cons (o := _) rfl (fun K hK => ?_) AllReadyH.nil
        go_simp
        refine hK.out _ _ ?_ (fun hHeld => ?_)
        · exact ⟨keepc (by go_grown) hl3 y0, keepc (by go_grown) hl3 y1, keepc (by go_grown) hl3 y2, keepc (by go_grown) hl3 y3, keepc (by go_grown) hl3 y4, keepc (by go_grown) hl3 y5, keepc (by go_grown) hl3 y6, keepc (by go_grown) hl3 y7, keepc (by go_grown) hl3 y8⟩
        clear hK K
        (try simp only [Act.put, List.setIfInBounds_toArray, List.set_cons_zero, List.set_cons_succ])
        refine wpAnyH_ready (rs := [9]) (by kernel_rfl) (by simp) ?_
        refine AllReadyH.cons (o := _) rfl (fun K hK => ?_) AllReadyH.nil
        go_simp
        refine hK.out _ _ ?_ (fun hHeld => ?_)
        · exact ⟨keepc (by go_grown) hl3 y0, keepc (by go_grown) hl3 y1, keepc (by go_grown) hl3 y2, keepc (by go_grown) hl3 y3, keepc (by go_grown) hl3 y4, keepc (by go_grown) hl3 y5, keepc (by go_grown) hl3 y6, keepc (by go_grown) hl3 y7, keepc (by go_grown) hl3 y8⟩
        clear hK K
        (try simp only [Act.put, List.setIfInBounds_toArray, List.set_cons_zero, List.set_cons_succ])
        refine tL 10 (some 7) ?_
        refine wpAnyH_done (by kernel_rfl) ?_ _
        go_wp2_with fail
        go_meet
        refine ⟨_, i, q, rfl, rfl, ?_, ?_, ?_, HQ.out, ?_⟩
        all_goals first | exact set2_0 kA | exact set2_1 kB | (simp [*]; done) | (simp; omega) | (simp [*]; omega) | (go_grown; done)
      refine AllReadyH.cons (o := _) rfl (fun K hK => ?_) ?_
      · go_simp
        refine hK.out _ _ ?_ (fun hHeld => ?_)
        · exact ⟨keepc (by go_grown) hl3 y0, keepc (by go_grown) hl3 y1, keepc (by go_grown) hl3 y2, keepc (by go_grown) hl3 y3, keepc (by go_grown) hl3 y4, keepc (by go_grown) hl3 y5, keepc (by go_grown) hl3 y6, keepc (by go_grown) hl3 y7, keepc (by go_grown) hl3 y8⟩
        clear hK K
        (try simp only [Act.put, List.setIfInBounds_toArray, List.set_cons_zero, List.set_cons_succ])
        refine wpAnyH_ready (rs := [4]) (by kernel_rfl) (by simp) ?_
        refine AllReadyH.cons (o := _) rfl (fun K hK => ?_) AllReadyH.nil
        go_simp
        refine (c_kindSort ⟨k, pa, pb, pc, n, m, si, sw, nm⟩ HPP.out (srt ns ⟨k, pa, pb, pc, n, m, si, sw, nm⟩ 0) (srt ns ⟨k, pa, pb, pc, n, m, si, sw, nm⟩ 1) (srt ns ⟨k, pa, pb, pc, n, m, si, sw, nm⟩ 2) _).mono ?_; rintro e w6 ⟨i, q, rfl, hq, hB6⟩; have HQ := Go.Lib.hid hq; clear hq; have hb6 : Below w3.heap.size w3 w6 := bstep (by go_grown) (Nat.le_refl _) hB6; (try (have kA : w6.cell? ⟨w5.heap.size, 0, none⟩ = some (.int .i64 0) := (hB6.cell (p := ⟨w5.heap.size, 0, none⟩) (alloc_ltS _ _)).trans (World.cell?_alloc_new _ _ _ _); have kB : w6.cell? ⟨w5.heap.size, 1, none⟩ = some (.int .i64 0) := (hB6.cell (p := ⟨w5.heap.size, 1, none⟩) (alloc_ltS _ _)).trans (World.cell?_alloc_new _ _ _ _); have kC : w6.frozen? ⟨w5.heap.size, 0, none⟩ = false := (hB6.frozen (p := ⟨w5.heap.size, 0, none⟩) (alloc_ltS _ _)).trans (frozen_of_new _ _ _ _); have kD : w6.frozen? ⟨w5.heap.size, 1, none⟩ = false := (hB6.frozen (p := ⟨w5.heap.size, 1, none⟩) (alloc_ltS _ _)).trans (frozen_of_new _ _ _ _); have kE : w5.heap.size < w6.heap.size := Nat.lt_of_lt_of_le (alloc_ltS _ _) hB6.size)); (try (have hu5 : w3.heap.size < w5.heap.size := Nat.lt_of_lt_of_le (alloc_ltS w3.drew _) HB5.out.size; have kA : w6.cell? ⟨w3.heap.size, 0, none⟩ = some (.int .i64 0) := (hB6.cell (p := ⟨w3.heap.size, 0, none⟩) hu5).trans ((HB5.out.cell (p := ⟨w3.heap.size, 0, none⟩) (alloc_ltS w3.drew _)).trans (World.cell?_alloc_new w3.drew _ _ _)); have kB : w6.cell? ⟨w3.heap.size, 1, none⟩ = some (.int .i64 0) := (hB6.cell (p := ⟨w3.heap.size, 1, none⟩) hu5).trans ((HB5.out.cell (p := ⟨w3.heap.size, 1, none⟩) (alloc_ltS w3.drew _)).trans (World.cell?_alloc_new w3.drew _ _ _)); have kC : w6.frozen? ⟨w3.heap.size, 0, none⟩ = false := (hB6.frozen (p := ⟨w3.heap.size, 0, none⟩) hu5).trans ((HB5.out.frozen (p := ⟨w3.heap.size, 0, none⟩) (alloc_ltS w3.drew _)).trans (frozen_of_new w3.drew _ _ _)); have kD : w6.frozen? ⟨w3.heap.size, 1, none⟩ = false := (hB6.frozen (p := ⟨w3.heap.size, 1, none⟩) hu5).trans ((HB5.out.frozen (p := ⟨w3.heap.size, 1, none⟩) (alloc_ltS w3.drew _)).trans (frozen_of_new w3.drew _ _ _)); have kE : w3.heap.size < w6.heap.size := Nat.lt_of_lt_of_le hu5 hB6.size)); have HB6 := Go.Lib.hid hB6; clear hB6; have ht6 := hb6.size
        (try go_wp2_with fail)
        refine hK.out _ _ ?_ (fun hHeld => ?_)
        · exact ⟨keepc (by go_grown) hl3 y0, keepc (by go_grown) hl3 y1, keepc (by go_grown) hl3 y2, keepc (by go_grown) hl3 y3, keepc (by go_grown) hl3 y4, keepc (by go_grown) hl3 y5, keepc (by go_grown) hl3 y6, keepc (by go_grown) hl3 y7, keepc (by go_grown) hl3 y8⟩
        clear hK K
        (try simp only [Act.put, List.setIfInBounds_toArray, List.set_cons_zero, List.set_cons_succ])
        refine tL 5 (some 28) ?_
        refine tL 6 (some 34) ?_
        refine tL 7 (some 35) ?_
        refine wpAnyH_ready (rs := [9]) (by kernel_rfl) (by simp) ?_
        refine AllReadyH.cons (o := _) rfl (fun K hK => ?_) AllReadyH.nil
        go_simp
        refine hK.out _ _ ?_ (fun hHeld => ?_)
        · exact ⟨keepc (by go_grown) hl3 y0, keepc (by go_grown) hl3 y1, keepc (by go_grown) hl3 y2, keepc (by go_grown) hl3 y3, keepc (by go_grown) hl3 y4, keepc (by go_grown) hl3 y5, keepc (by go_grown) hl3 y6, keepc (by go_grown) hl3 y7, keepc (by go_grown) hl3 y8⟩
        clear hK K
        (try simp only [Act.put, List.setIfInBounds_toArray, List.set_cons_zero, List.set_cons_succ])
        refine tL 10 (some 7) ?_
        refine wpAnyH_done (by kernel_rfl) ?_ _
        go_wp2_with fail
        go_meet
        refine ⟨_, i, q, rfl, rfl, ?_, ?_, ?_, HQ.out, ?_⟩
        all_goals first | exact set2_0 kA | exact set2_1 kB | (simp [*]; done) | (simp; omega) | (simp [*]; omega) | (go_grown; done)
      exact AllReadyH.nil
    refine AllReadyH.cons (o := _) rfl (fun K hK => ?_) ?_
    · go_simp
      refine hK.out _ _ ?_ (fun hHeld => ?_)
      · exact ⟨keepc (by go_grown) hl3 y0, keepc (by go_grown) hl3 y1, keepc (by go_grown) hl3 y2, keepc (by go_grown) hl3 y3, keepc (by go_grown) hl3 y4, keepc (by go_grown) hl3 y5, keepc (by go_grown) hl3 y6, keepc (by go_grown) hl3 y7, keepc (by go_grown) hl3 y8⟩
      clear hK K
      (try simp only [Act.put, List.setIfInBounds_toArray, List.set_cons_zero, List.set_cons_succ])
      refine wpAnyH_ready (rs := [3]) (by kernel_rfl) (by simp) ?_
      refine AllReadyH.cons (o := _) rfl (fun K hK => ?_) AllReadyH.nil
      go_simp
      refine (c_partSorts ⟨k, pa, pb, pc, n, m, si, sw, nm⟩ _ (Nat.le_trans hBw (by go_size)) (HN.out.below ((show Below w.heap.size w _ by go_grown).mono hBw)) HPT.out HPP.out).mono ?_; rintro e w5 ⟨rfl, hB5⟩; have hb5 : Below w3.heap.size w3 w5 := bstep (by go_grown) (Nat.le_refl _) hB5; have hbw5 : Below w.heap.size w w5 := bstep (by go_grown) (Nat.le_refl _) hB5; have HB5 := Go.Lib.hid hB5; clear hB5; have ht5 := hb5.size
      (try go_wp2_with fail)
      refine hK.out _ _ ?_ (fun hHeld => ?_)
      · exact ⟨keepc (by go_grown) hl3 y0, keepc (by go_grown) hl3 y1, keepc (by go_grown) hl3 y2, keepc (by go_grown) hl3 y3, keepc (by go_grown) hl3 y4, keepc (by go_grown) hl3 y5, keepc (by go_grown) hl3 y6, keepc (by go_grown) hl3 y7, keepc (by go_grown) hl3 y8⟩
      clear hK K
      (try simp only [Act.put, List.setIfInBounds_toArray, List.set_cons_zero, List.set_cons_succ])
      refine wpAnyH_ready (rs := [4]) (by kernel_rfl) (by simp) ?_
      refine AllReadyH.cons (o := _) rfl (fun K hK => ?_) AllReadyH.nil
      go_simp
      refine (c_kindSort ⟨k, pa, pb, pc, n, m, si, sw, nm⟩ HPP.out (srt ns ⟨k, pa, pb, pc, n, m, si, sw, nm⟩ 0) (srt ns ⟨k, pa, pb, pc, n, m, si, sw, nm⟩ 1) (srt ns ⟨k, pa, pb, pc, n, m, si, sw, nm⟩ 2) _).mono ?_; rintro e w6 ⟨i, q, rfl, hq, hB6⟩; have HQ := Go.Lib.hid hq; clear hq; have hb6 : Below w3.heap.size w3 w6 := bstep (by go_grown) (Nat.le_refl _) hB6; (try (have kA : w6.cell? ⟨w5.heap.size, 0, none⟩ = some (.int .i64 0) := (hB6.cell (p := ⟨w5.heap.size, 0, none⟩) (alloc_ltS _ _)).trans (World.cell?_alloc_new _ _ _ _); have kB : w6.cell? ⟨w5.heap.size, 1, none⟩ = some (.int .i64 0) := (hB6.cell (p := ⟨w5.heap.size, 1, none⟩) (alloc_ltS _ _)).trans (World.cell?_alloc_new _ _ _ _); have kC : w6.frozen? ⟨w5.heap.size, 0, none⟩ = false := (hB6.frozen (p := ⟨w5.heap.size, 0, none⟩) (alloc_ltS _ _)).trans (frozen_of_new _ _ _ _); have kD : w6.frozen? ⟨w5.heap.size, 1, none⟩ = false := (hB6.frozen (p := ⟨w5.heap.size, 1, none⟩) (alloc_ltS _ _)).trans (frozen_of_new _ _ _ _); have kE : w5.heap.size < w6.heap.size := Nat.lt_of_lt_of_le (alloc_ltS _ _) hB6.size)); (try (have hu5 : w3.heap.size < w5.heap.size := Nat.lt_of_lt_of_le (alloc_ltS w3.drew _) HB5.out.size; have kA : w6.cell? ⟨w3.heap.size, 0, none⟩ = some (.int .i64 0) := (hB6.cell (p := ⟨w3.heap.size, 0, none⟩) hu5).trans ((HB5.out.cell (p := ⟨w3.heap.size, 0, none⟩) (alloc_ltS w3.drew _)).trans (World.cell?_alloc_new w3.drew _ _ _)); have kB : w6.cell? ⟨w3.heap.size, 1, none⟩ = some (.int .i64 0) := (hB6.cell (p := ⟨w3.heap.size, 1, none⟩) hu5).trans ((HB5.out.cell (p := ⟨w3.heap.size, 1, none⟩) (alloc_ltS w3.drew _)).trans (World.cell?_alloc_new w3.drew _ _ _)); have kC : w6.frozen? ⟨w3.heap.size, 0, none⟩ = false := (hB6.frozen (p := ⟨w3.heap.size, 0, none⟩) hu5).trans ((HB5.out.frozen (p := ⟨w3.heap.size, 0, none⟩) (alloc_ltS w3.drew _)).trans (frozen_of_new w3.drew _ _ _)); have kD : w6.frozen? ⟨w3.heap.size, 1, none⟩ = false := (hB6.frozen (p := ⟨w3.heap.size, 1, none⟩) hu5).trans ((HB5.out.frozen (p := ⟨w3.heap.size, 1, none⟩) (alloc_ltS w3.drew _)).trans (frozen_of_new w3.drew _ _ _)); have kE : w3.heap.size < w6.heap.size := Nat.lt_of_lt_of_le hu5 hB6.size)); have HB6 := Go.Lib.hid hB6; clear hB6; have ht6 := hb6.size
      (try go_wp2_with fail)
      refine hK.out _ _ ?_ (fun hHeld => ?_)
      · exact ⟨keepc (by go_grown) hl3 y0, keepc (by go_grown) hl3 y1, keepc (by go_grown) hl3 y2, keepc (by go_grown) hl3 y3, keepc (by go_grown) hl3 y4, keepc (by go_grown) hl3 y5, keepc (by go_grown) hl3 y6, keepc (by go_grown) hl3 y7, keepc (by go_grown) hl3 y8⟩
      clear hK K
      (try simp only [Act.put, List.setIfInBounds_toArray, List.set_cons_zero, List.set_cons_succ])
      refine tL 5 (some 28) ?_
      refine tL 6 (some 34) ?_
      refine tL 7 (some 35) ?_
      refine wpAnyH_ready (rs := [9]) (by kernel_rfl) (by simp) ?_
      refine AllReadyH.cons (o := _) rfl (fun K hK => ?_) AllReadyH.nil
      go_simp
      refine hK.out _ _ ?_ (fun hHeld => ?_)
      · exact ⟨keepc (by go_grown) hl3 y0, keepc (by go_grown) hl3 y1, keepc (by go_grown) hl3 y2, keepc (by go_grown) hl3 y3, keepc (by go_grown) hl3 y4, keepc (by go_grown) hl3 y5, keepc (by go_grown) hl3 y6, keepc (by go_grown) hl3 y7, keepc (by go_grown) hl3 y8⟩
      clear hK K
      (try simp only [Act.put, List.setIfInBounds_toArray, List.set_cons_zero, List.set_cons_succ])
      refine tL 10 (some 7) ?_
      refine wpAnyH_done (by kernel_rfl) ?_ _
      go_wp2_with fail
      go_meet
      refine ⟨_, i, q, rfl, rfl, ?_, ?_, ?_, HQ.out, ?_⟩
      all_goals first | exact set2_0 kA | exact set2_1 kB | (simp [*]; done) | (simp; omega) | (simp [*]; omega) | (go_grown; done)
    exact AllReadyH.nil
  case rest =>
    obtain ⟨g, i, q, rfl, rfl, ⟨hg, hgl⟩, d0, d1, hq, hB⟩ := hcut
    have HQ := Go.Lib.hid hq
    clear hq
    have x0 := (hB.cell (p := ⟨w.heap.size + 1, 0, none⟩) hz3).trans r0
    have x1 := (hB.cell (p := ⟨w.heap.size + 1, 1, none⟩) hz3).trans r1
    have v0 := (hB.frozen (p := ⟨w.heap.size + 1, 0, none⟩) hz3).trans f0
    have v1 := (hB.frozen (p := ⟨w.heap.size + 1, 1, none⟩) hz3).trans f1
    have eg : ¬ g = w.heap.size + 1 := by omega
    have eg' : ¬ w.heap.size + 1 = g := by omega
    have hbc : Below w.heap.size w wc := bstep hbw3 (Nat.le_refl _) hB
    clear hB r0 r1 f0 f1
    go_wp2
    refine bodyPost_ret (v := .tuple #[.agg #[.int .i64 i, .int .i64 q], .bool true]) (by simp [results, Tryz.results66, go_sem, x0, x1]) rfl ?_
    exact nsp_yes HOK.out (HQ.out HK.out) (by go_grown)
set_option maxRecDepth 100000 in
set_option maxHeartbeats 8000000 in
theorem c_NodeSortI_no {B : Nat} {a : Option Addr} {len cap : Nat} {ns : List ND} (x : ND) (hx : x.name.size ≤ maxLen) (w : World) (hBw : B ≤ w.heap.size) (h : NodesAt B w a len cap ns) (hlen : len ≤ 60) (hp : prtOk ns x) (hq : numOk x) (hr : nmOk x = true) (hk : ¬ kOk x (srt ns x 0) (srt ns x 1) (srt ns x 2)) :
    Calls Tryz.prog 66 #[.slice a len cap, .agg x.cells.toArray] w (NSP ns x w) := by
  have HL := Go.Lib.hid h.1
  have HN := Go.Lib.hid h
  clear h
  have HOK := Go.Lib.hid (show ¬ nOk ns x from fun h => hk ((nOk_iff ns x).mp h).2.2.2.2)
  have HK := Go.Lib.hid hk
  have hdk : decide (kOk x (srt ns x 0) (srt ns x 1) (srt ns x 2)) = false := decide_eq_false hk
  have hd : decide (prtOk ns x) = true := decide_eq_true hp
  have hd2 : decide (numOk x) = true := decide_eq_true hq
  have HPP := Go.Lib.hid hp.1
  have HPT := Go.Lib.hid (show ptsOk len x from HL.out ▸ hp.2.1)
  clear hp hq hk
  obtain ⟨k, pa, pb, pc, n, m, si, sw, nm⟩ := x
  simp only [ND.cells] at *
  go_enter Tryz.func66, Tryz.ntmps66
  go_wp2_with fail
  refine (c_partsOk ⟨k, pa, pb, pc, n, m, si, sw, nm⟩ _ (Nat.le_trans hBw (by simp; omega)) (HN.out.below ((show Below w.heap.size w _ by go_grown).mono hBw))).mono ?_
  rintro e w1 ⟨rfl, hB1⟩
  have HB1 := Go.Lib.hid hB1
  clear hB1
  obtain ⟨hc1, hf1⟩ := bcell HB1.out
  have hz1 : w.heap.size + 1 < w1.heap.size := by have := HB1.out.size; simp at this; omega
  go_wp2_with fail
  refine (c_numbersOk ⟨k, pa, pb, pc, n, m, si, sw, nm⟩ _).mono ?_
  rintro e w2 ⟨rfl, hB2⟩
  have HB2 := Go.Lib.hid (bstep HB1.out (Nat.le_refl _) hB2)
  clear hB2 hc1 hf1
  obtain ⟨hc2, hf2⟩ := bcell HB2.out
  have hz2 : w.heap.size + 1 < w2.heap.size := by have := HB2.out.size; simp at this; omega
  go_wp2_with fail
  refine (c_nodeNameOk ⟨k, pa, pb, pc, n, m, si, sw, nm⟩ hx _).mono ?_
  rintro e w3 ⟨rfl, hB3⟩
  have HB3 := Go.Lib.hid (bstep HB2.out (Nat.le_refl _) hB3)
  clear hB3 hc2 hf2
  obtain ⟨hc3, hf3⟩ := bcell HB3.out
  have hz3 : w.heap.size + 1 < w3.heap.size := by have := HB3.out.size; simp at this; omega
  have hl3 : w.heap.size < w3.heap.size := by omega
  have y0 : w3.cell? ⟨w.heap.size, 0, none⟩ = some (.int .i64 k) := (hc3 w.heap.size 0 (by simp; omega)).trans (by simp)
  have y1 : w3.cell? ⟨w.heap.size, 1, none⟩ = some (.int .i64 pa) := (hc3 w.heap.size 1 (by simp; omega)).trans (by simp)
  have y2 : w3.cell? ⟨w.heap.size, 2, none⟩ = some (.int .i64 pb) := (hc3 w.heap.size 2 (by simp; omega)).trans (by simp)
  have y3 : w3.cell? ⟨w.heap.size, 3, none⟩ = some (.int .i64 pc) := (hc3 w.heap.size 3 (by simp; omega)).trans (by simp)
  have y4 : w3.cell? ⟨w.heap.size, 4, none⟩ = some (.int .i64 n) := (hc3 w.heap.size 4 (by simp; omega)).trans (by simp)
  have y5 : w3.cell? ⟨w.heap.size, 5, none⟩ = some (.int .i64 m) := (hc3 w.heap.size 5 (by simp; omega)).trans (by simp)
  have y6 : w3.cell? ⟨w.heap.size, 6, none⟩ = some (.int .i64 si) := (hc3 w.heap.size 6 (by simp; omega)).trans (by simp)
  have y7 : w3.cell? ⟨w.heap.size, 7, none⟩ = some (.int .i64 sw) := (hc3 w.heap.size 7 (by simp; omega)).trans (by simp)
  have y8 : w3.cell? ⟨w.heap.size, 8, none⟩ = some (.string nm) := (hc3 w.heap.size 8 (by simp; omega)).trans (by simp)
  have hbw3 : Below w.heap.size w w3 := below_two_of HB3.out
  have r0 : w3.cell? ⟨w.heap.size + 1, 0, none⟩ = some (.int .i64 0) := (hc3 (w.heap.size + 1) 0 (by simp)).trans (by simp)
  have f0 : w3.frozen? ⟨w.heap.size + 1, 0, none⟩ = false := (hf3 (w.heap.size + 1) 0 (by simp)).trans (frozen2 _ _ _ _ _)
  have r1 : w3.cell? ⟨w.heap.size + 1, 1, none⟩ = some (.int .i64 0) := (hc3 (w.heap.size + 1) 1 (by simp)).trans (by simp)
  have f1 : w3.frozen? ⟨w.heap.size + 1, 1, none⟩ = false := (hf3 (w.heap.size + 1) 1 (by simp)).trans (frozen2 _ _ _ _ _)
  clear hc3 hf3 hz1 hz2
  go_upto_region 3 with fail
  go_cut [6, 7] (fun s6 s7 wx => CutN ns ⟨k, pa, pb, pc, n, m, si, sw, nm⟩ false w3 s6 s7 wx)
  case first =>
    refine wp_region_held_drew (S := (fun w' => w'.cell? ⟨w.heap.size, 0, none⟩ = some (.int .i64 k) ∧ w'.cell? ⟨w.heap.size, 1, none⟩ = some (.int .i64 pa) ∧ w'.cell? ⟨w.heap.size, 2, none⟩ = some (.int .i64 pb) ∧ w'.cell? ⟨w.heap.size, 3, none⟩ = some (.int .i64 pc) ∧ w'.cell? ⟨w.heap.size, 4, none⟩ = some (.int .i64 n) ∧ w'.cell? ⟨w.heap.size, 5, none⟩ = some (.int .i64 m) ∧ w'.cell? ⟨w.heap.size, 6, none⟩ = some (.int .i64 si) ∧ w'.cell? ⟨w.heap.size, 7, none⟩ = some (.int .i64 sw) ∧ w'.cell? ⟨w.heap.size, 8, none⟩ = some (.string nm))) (by kernel_rfl) ?_ (fun hHeld => ?_)
    · exact ⟨keepc (by go_grown) hl3 y0, keepc (by go_grown) hl3 y1, keepc (by go_grown) hl3 y2, keepc (by go_grown) hl3 y3, keepc (by go_grown) hl3 y4, keepc (by go_grown) hl3 y5, keepc (by go_grown) hl3 y6, keepc (by go_grown) hl3 y7, keepc (by go_grown) hl3 y8⟩
    refine tL 0 (some 29) ?_
    refine tL 1 (some 30) ?_
    refine tL 2 (some 31) ?_
    refine wpAnyH_ready (rs := [3, 8]) (by kernel_rfl) (by simp) ?_
    refine AllReadyH.cons (o := _) rfl (fun K hK => ?_) ?_
    · go_simp
      refine (c_partSorts ⟨k, pa, pb, pc, n, m, si, sw, nm⟩ _ (Nat.le_trans hBw (by go_size)) (HN.out.below ((show Below w.heap.size w _ by go_grown).mono hBw)) HPT.out HPP.out).mono ?_; rintro e w5 ⟨rfl, hB5⟩; have hb5 : Below w3.heap.size w3 w5 := bstep (by go_grown) (Nat.le_refl _) hB5; have hbw5 : Below w.heap.size w w5 := bstep (by go_grown) (Nat.le_refl _) hB5; have HB5 := Go.Lib.hid hB5; clear hB5; have ht5 := hb5.size
      (try go_wp2_with fail)
      refine hK.out _ _ ?_ (fun hHeld => ?_)
      · exact ⟨keepc (by go_grown) hl3 y0, keepc (by go_grown) hl3 y1, keepc (by go_grown) hl3 y2, keepc (by go_grown) hl3 y3, keepc (by go_grown) hl3 y4, keepc (by go_grown) hl3 y5, keepc (by go_grown) hl3 y6, keepc (by go_grown) hl3 y7, keepc (by go_grown) hl3 y8⟩
      clear hK K
      (try simp only [Act.put, List.setIfInBounds_toArray, List.set_cons_zero, List.set_cons_succ])
      refine wpAnyH_ready (rs := [4, 8]) (by kernel_rfl) (by simp) ?_
      refine AllReadyH.cons (o := _) rfl (fun K hK => ?_) ?_
      · go_simp
        refine (c_kindSort ⟨k, pa, pb, pc, n, m, si, sw, nm⟩ HPP.out (srt ns ⟨k, pa, pb, pc, n, m, si, sw, nm⟩ 0) (srt ns ⟨k, pa, pb, pc, n, m, si, sw, nm⟩ 1) (srt ns ⟨k, pa, pb, pc, n, m, si, sw, nm⟩ 2) _).mono ?_; rintro e w6 ⟨i, q, rfl, hq, hB6⟩; have HQ := Go.Lib.hid hq; clear hq; have hb6 : Below w3.heap.size w3 w6 := bstep (by go_grown) (Nat.le_refl _) hB6; (try (have kA : w6.cell? ⟨w5.heap.size, 0, none⟩ = some (.int .i64 0) := (hB6.cell (p := ⟨w5.heap.size, 0, none⟩) (alloc_ltS _ _)).trans (World.cell?_alloc_new _ _ _ _); have kB : w6.cell? ⟨w5.heap.size, 1, none⟩ = some (.int .i64 0) := (hB6.cell (p := ⟨w5.heap.size, 1, none⟩) (alloc_ltS _ _)).trans (World.cell?_alloc_new _ _ _ _); have kC : w6.frozen? ⟨w5.heap.size, 0, none⟩ = false := (hB6.frozen (p := ⟨w5.heap.size, 0, none⟩) (alloc_ltS _ _)).trans (frozen_of_new _ _ _ _); have kD : w6.frozen? ⟨w5.heap.size, 1, none⟩ = false := (hB6.frozen (p := ⟨w5.heap.size, 1, none⟩) (alloc_ltS _ _)).trans (frozen_of_new _ _ _ _); have kE : w5.heap.size < w6.heap.size := Nat.lt_of_lt_of_le (alloc_ltS _ _) hB6.size)); (try (have hu5 : w3.heap.size < w5.heap.size := Nat.lt_of_lt_of_le (alloc_ltS w3.drew _) HB5.out.size; have kA : w6.cell? ⟨w3.heap.size, 0, none⟩ = some (.int .i64 0) := (hB6.cell (p := ⟨w3.heap.size, 0, none⟩) hu5).trans ((HB5.out.cell (p := ⟨w3.heap.size, 0, none⟩) (alloc_ltS w3.drew _)).trans (World.cell?_alloc_new w3.drew _ _ _)); have kB : w6.cell? ⟨w3.heap.size, 1, none⟩ = some (.int .i64 0) := (hB6.cell (p := ⟨w3.heap.size, 1, none⟩) hu5).trans ((HB5.out.cell (p := ⟨w3.heap.size, 1, none⟩) (alloc_ltS w3.drew _)).trans (World.cell?_alloc_new w3.drew _ _ _)); have kC : w6.frozen? ⟨w3.heap.size, 0, none⟩ = false := (hB6.frozen (p := ⟨w3.heap.size, 0, none⟩) hu5).trans ((HB5.out.frozen (p := ⟨w3.heap.size, 0, none⟩) (alloc_ltS w3.drew _)).trans (frozen_of_new w3.drew _ _ _)); have kD : w6.frozen? ⟨w3.heap.size, 1, none⟩ = false := (hB6.frozen (p := ⟨w3.heap.size, 1, none⟩) hu5).trans ((HB5.out.frozen (p := ⟨w3.heap.size, 1, none⟩) (alloc_ltS w3.drew _)).trans (frozen_of_new w3.drew _ _ _)); have kE : w3.heap.size < w6.heap.size := Nat.lt_of_lt_of_le hu5 hB6.size)); have HB6 := Go.Lib.hid hB6; clear hB6; have ht6 := hb6.size
        (try go_wp2_with fail)
        refine hK.out _ _ ?_ (fun hHeld => ?_)
        · exact ⟨keepc (by go_grown) hl3 y0, keepc (by go_grown) hl3 y1, keepc (by go_grown) hl3 y2, keepc (by go_grown) hl3 y3, keepc (by go_grown) hl3 y4, keepc (by go_grown) hl3 y5, keepc (by go_grown) hl3 y6, keepc (by go_grown) hl3 y7, keepc (by go_grown) hl3 y8⟩
        clear hK K
        (try simp only [Act.put, List.setIfInBounds_toArray, List.set_cons_zero, List.set_cons_succ])
        refine tL 5 (some 28) ?_
        refine tL 6 (some 34) ?_
        refine tL 7 (some 35) ?_
        refine wpAnyH_ready (rs := [8]) (by kernel_rfl) (by simp) ?_
        refine AllReadyH.cons (o := _) rfl (fun K hK => ?_) AllReadyH.nil
        go_simp
        refine hK.out _ _ ?_ (fun hHeld => ?_)
        · exact ⟨keepc (by go_grown) hl3 y0, keepc (by go_grown) hl3 y1, keepc (by go_grown) hl3 y2, keepc (by go_grown) hl3 y3, keepc (by go_grown) hl3 y4, keepc (by go_grown) hl3 y5, keepc (by go_grown) hl3 y6, keepc (by go_grown) hl3 y7, keepc (by go_grown) hl3 y8⟩
        clear hK K
        (try simp only [Act.put, List.setIfInBounds_toArray, List.set_cons_zero, List.set_cons_succ])
        refine wpAnyH_ready (rs := [9]) (by kernel_rfl) (by simp) ?_
        refine AllReadyH.cons (o := _) rfl (fun K hK => ?_) AllReadyH.nil
        go_simp
        refine hK.out _ _ ?_ (fun hHeld => ?_)
        · exact ⟨keepc (by go_grown) hl3 y0, keepc (by go_grown) hl3 y1, keepc (by go_grown) hl3 y2, keepc (by go_grown) hl3 y3, keepc (by go_grown) hl3 y4, keepc (by go_grown) hl3 y5, keepc (by go_grown) hl3 y6, keepc (by go_grown) hl3 y7, keepc (by go_grown) hl3 y8⟩
        clear hK K
        (try simp only [Act.put, List.setIfInBounds_toArray, List.set_cons_zero, List.set_cons_succ])
        refine tL 10 (some 7) ?_
        refine wpAnyH_done (by kernel_rfl) ?_ _
        go_wp2_with fail
        go_meet
        refine ⟨_, i, q, rfl, rfl, ?_, ?_, ?_, HQ.out, ?_⟩
        all_goals first | exact set2_0 kA | exact set2_1 kB | (simp [*]; done) | (simp; omega) | (simp [*]; omega) | (go_grown; done)
      refine AllReadyH.cons (o := _) rfl (fun K hK => ?_) ?_
      · go_simp
        refine hK.out _ _ ?_ (fun hHeld => ?_)
        · exact ⟨keepc (by go_grown) hl3 y0, keepc (by go_grown) hl3 y1, keepc (by go_grown) hl3 y2, keepc (by go_grown) hl3 y3, keepc (by go_grown) hl3 y4, keepc (by go_grown) hl3 y5, keepc (by go_grown) hl3 y6, keepc (by go_grown) hl3 y7, keepc (by go_grown) hl3 y8⟩
        clear hK K
        (try simp only [Act.put, List.setIfInBounds_toArray, List.set_cons_zero, List.set_cons_succ])
        refine wpAnyH_ready (rs := [4]) (by kernel_rfl) (by simp) ?_
        refine AllReadyH.cons (o := _) rfl (fun K hK => ?_) AllReadyH.nil
        go_simp
        refine (c_kindSort ⟨k, pa, pb, pc, n, m, si, sw, nm⟩ HPP.out (srt ns ⟨k, pa, pb, pc, n, m, si, sw, nm⟩ 0) (srt ns ⟨k, pa, pb, pc, n, m, si, sw, nm⟩ 1) (srt ns ⟨k, pa, pb, pc, n, m, si, sw, nm⟩ 2) _).mono ?_; rintro e w6 ⟨i, q, rfl, hq, hB6⟩; have HQ := Go.Lib.hid hq; clear hq; have hb6 : Below w3.heap.size w3 w6 := bstep (by go_grown) (Nat.le_refl _) hB6; (try (have kA : w6.cell? ⟨w5.heap.size, 0, none⟩ = some (.int .i64 0) := (hB6.cell (p := ⟨w5.heap.size, 0, none⟩) (alloc_ltS _ _)).trans (World.cell?_alloc_new _ _ _ _); have kB : w6.cell? ⟨w5.heap.size, 1, none⟩ = some (.int .i64 0) := (hB6.cell (p := ⟨w5.heap.size, 1, none⟩) (alloc_ltS _ _)).trans (World.cell?_alloc_new _ _ _ _); have kC : w6.frozen? ⟨w5.heap.size, 0, none⟩ = false := (hB6.frozen (p := ⟨w5.heap.size, 0, none⟩) (alloc_ltS _ _)).trans (frozen_of_new _ _ _ _); have kD : w6.frozen? ⟨w5.heap.size, 1, none⟩ = false := (hB6.frozen (p := ⟨w5.heap.size, 1, none⟩) (alloc_ltS _ _)).trans (frozen_of_new _ _ _ _); have kE : w5.heap.size < w6.heap.size := Nat.lt_of_lt_of_le (alloc_ltS _ _) hB6.size)); (try (have hu5 : w3.heap.size < w5.heap.size := Nat.lt_of_lt_of_le (alloc_ltS w3.drew _) HB5.out.size; have kA : w6.cell? ⟨w3.heap.size, 0, none⟩ = some (.int .i64 0) := (hB6.cell (p := ⟨w3.heap.size, 0, none⟩) hu5).trans ((HB5.out.cell (p := ⟨w3.heap.size, 0, none⟩) (alloc_ltS w3.drew _)).trans (World.cell?_alloc_new w3.drew _ _ _)); have kB : w6.cell? ⟨w3.heap.size, 1, none⟩ = some (.int .i64 0) := (hB6.cell (p := ⟨w3.heap.size, 1, none⟩) hu5).trans ((HB5.out.cell (p := ⟨w3.heap.size, 1, none⟩) (alloc_ltS w3.drew _)).trans (World.cell?_alloc_new w3.drew _ _ _)); have kC : w6.frozen? ⟨w3.heap.size, 0, none⟩ = false := (hB6.frozen (p := ⟨w3.heap.size, 0, none⟩) hu5).trans ((HB5.out.frozen (p := ⟨w3.heap.size, 0, none⟩) (alloc_ltS w3.drew _)).trans (frozen_of_new w3.drew _ _ _)); have kD : w6.frozen? ⟨w3.heap.size, 1, none⟩ = false := (hB6.frozen (p := ⟨w3.heap.size, 1, none⟩) hu5).trans ((HB5.out.frozen (p := ⟨w3.heap.size, 1, none⟩) (alloc_ltS w3.drew _)).trans (frozen_of_new w3.drew _ _ _)); have kE : w3.heap.size < w6.heap.size := Nat.lt_of_lt_of_le hu5 hB6.size)); have HB6 := Go.Lib.hid hB6; clear hB6; have ht6 := hb6.size
        (try go_wp2_with fail)
        refine hK.out _ _ ?_ (fun hHeld => ?_)
        · exact ⟨keepc (by go_grown) hl3 y0, keepc (by go_grown) hl3 y1, keepc (by go_grown) hl3 y2, keepc (by go_grown) hl3 y3, keepc (by go_grown) hl3 y4, keepc (by go_grown) hl3 y5, keepc (by go_grown) hl3 y6, keepc (by go_grown) hl3 y7, keepc (by go_grown) hl3 y8⟩
        clear hK K
        (try simp only [Act.put, List.setIfInBounds_toArray, List.set_cons_zero, List.set_cons_succ])
        refine tL 5 (some 28) ?_
        refine tL 6 (some 34) ?_
        refine tL 7 (some 35) ?_
        refine wpAnyH_ready (rs := [9]) (by kernel_rfl) (by simp) ?_
        refine AllReadyH.cons (o := _) rfl (fun K hK => ?_) AllReadyH.nil
        go_simp
        refine hK.out _ _ ?_ (fun hHeld => ?_)
        · exact ⟨keepc (by go_grown) hl3 y0, keepc (by go_grown) hl3 y1, keepc (by go_grown) hl3 y2, keepc (by go_grown) hl3 y3, keepc (by go_grown) hl3 y4, keepc (by go_grown) hl3 y5, keepc (by go_grown) hl3 y6, keepc (by go_grown) hl3 y7, keepc (by go_grown) hl3 y8⟩
        clear hK K
        (try simp only [Act.put, List.setIfInBounds_toArray, List.set_cons_zero, List.set_cons_succ])
        refine tL 10 (some 7) ?_
        refine wpAnyH_done (by kernel_rfl) ?_ _
        go_wp2_with fail
        go_meet
        refine ⟨_, i, q, rfl, rfl, ?_, ?_, ?_, HQ.out, ?_⟩
        all_goals first | exact set2_0 kA | exact set2_1 kB | (simp [*]; done) | (simp; omega) | (simp [*]; omega) | (go_grown; done)
      exact AllReadyH.nil
    refine AllReadyH.cons (o := _) rfl (fun K hK => ?_) ?_
    · go_simp
      refine hK.out _ _ ?_ (fun hHeld => ?_)
      · exact ⟨keepc (by go_grown) hl3 y0, keepc (by go_grown) hl3 y1, keepc (by go_grown) hl3 y2, keepc (by go_grown) hl3 y3, keepc (by go_grown) hl3 y4, keepc (by go_grown) hl3 y5, keepc (by go_grown) hl3 y6, keepc (by go_grown) hl3 y7, keepc (by go_grown) hl3 y8⟩
      clear hK K
      (try simp only [Act.put, List.setIfInBounds_toArray, List.set_cons_zero, List.set_cons_succ])
      refine wpAnyH_ready (rs := [3]) (by kernel_rfl) (by simp) ?_
      refine AllReadyH.cons (o := _) rfl (fun K hK => ?_) AllReadyH.nil
      go_simp
      refine (c_partSorts ⟨k, pa, pb, pc, n, m, si, sw, nm⟩ _ (Nat.le_trans hBw (by go_size)) (HN.out.below ((show Below w.heap.size w _ by go_grown).mono hBw)) HPT.out HPP.out).mono ?_; rintro e w5 ⟨rfl, hB5⟩; have hb5 : Below w3.heap.size w3 w5 := bstep (by go_grown) (Nat.le_refl _) hB5; have hbw5 : Below w.heap.size w w5 := bstep (by go_grown) (Nat.le_refl _) hB5; have HB5 := Go.Lib.hid hB5; clear hB5; have ht5 := hb5.size
      (try go_wp2_with fail)
      refine hK.out _ _ ?_ (fun hHeld => ?_)
      · exact ⟨keepc (by go_grown) hl3 y0, keepc (by go_grown) hl3 y1, keepc (by go_grown) hl3 y2, keepc (by go_grown) hl3 y3, keepc (by go_grown) hl3 y4, keepc (by go_grown) hl3 y5, keepc (by go_grown) hl3 y6, keepc (by go_grown) hl3 y7, keepc (by go_grown) hl3 y8⟩
      clear hK K
      (try simp only [Act.put, List.setIfInBounds_toArray, List.set_cons_zero, List.set_cons_succ])
      refine wpAnyH_ready (rs := [4]) (by kernel_rfl) (by simp) ?_
      refine AllReadyH.cons (o := _) rfl (fun K hK => ?_) AllReadyH.nil
      go_simp
      refine (c_kindSort ⟨k, pa, pb, pc, n, m, si, sw, nm⟩ HPP.out (srt ns ⟨k, pa, pb, pc, n, m, si, sw, nm⟩ 0) (srt ns ⟨k, pa, pb, pc, n, m, si, sw, nm⟩ 1) (srt ns ⟨k, pa, pb, pc, n, m, si, sw, nm⟩ 2) _).mono ?_; rintro e w6 ⟨i, q, rfl, hq, hB6⟩; have HQ := Go.Lib.hid hq; clear hq; have hb6 : Below w3.heap.size w3 w6 := bstep (by go_grown) (Nat.le_refl _) hB6; (try (have kA : w6.cell? ⟨w5.heap.size, 0, none⟩ = some (.int .i64 0) := (hB6.cell (p := ⟨w5.heap.size, 0, none⟩) (alloc_ltS _ _)).trans (World.cell?_alloc_new _ _ _ _); have kB : w6.cell? ⟨w5.heap.size, 1, none⟩ = some (.int .i64 0) := (hB6.cell (p := ⟨w5.heap.size, 1, none⟩) (alloc_ltS _ _)).trans (World.cell?_alloc_new _ _ _ _); have kC : w6.frozen? ⟨w5.heap.size, 0, none⟩ = false := (hB6.frozen (p := ⟨w5.heap.size, 0, none⟩) (alloc_ltS _ _)).trans (frozen_of_new _ _ _ _); have kD : w6.frozen? ⟨w5.heap.size, 1, none⟩ = false := (hB6.frozen (p := ⟨w5.heap.size, 1, none⟩) (alloc_ltS _ _)).trans (frozen_of_new _ _ _ _); have kE : w5.heap.size < w6.heap.size := Nat.lt_of_lt_of_le (alloc_ltS _ _) hB6.size)); (try (have hu5 : w3.heap.size < w5.heap.size := Nat.lt_of_lt_of_le (alloc_ltS w3.drew _) HB5.out.size; have kA : w6.cell? ⟨w3.heap.size, 0, none⟩ = some (.int .i64 0) := (hB6.cell (p := ⟨w3.heap.size, 0, none⟩) hu5).trans ((HB5.out.cell (p := ⟨w3.heap.size, 0, none⟩) (alloc_ltS w3.drew _)).trans (World.cell?_alloc_new w3.drew _ _ _)); have kB : w6.cell? ⟨w3.heap.size, 1, none⟩ = some (.int .i64 0) := (hB6.cell (p := ⟨w3.heap.size, 1, none⟩) hu5).trans ((HB5.out.cell (p := ⟨w3.heap.size, 1, none⟩) (alloc_ltS w3.drew _)).trans (World.cell?_alloc_new w3.drew _ _ _)); have kC : w6.frozen? ⟨w3.heap.size, 0, none⟩ = false := (hB6.frozen (p := ⟨w3.heap.size, 0, none⟩) hu5).trans ((HB5.out.frozen (p := ⟨w3.heap.size, 0, none⟩) (alloc_ltS w3.drew _)).trans (frozen_of_new w3.drew _ _ _)); have kD : w6.frozen? ⟨w3.heap.size, 1, none⟩ = false := (hB6.frozen (p := ⟨w3.heap.size, 1, none⟩) hu5).trans ((HB5.out.frozen (p := ⟨w3.heap.size, 1, none⟩) (alloc_ltS w3.drew _)).trans (frozen_of_new w3.drew _ _ _)); have kE : w3.heap.size < w6.heap.size := Nat.lt_of_lt_of_le hu5 hB6.size)); have HB6 := Go.Lib.hid hB6; clear hB6; have ht6 := hb6.size
      (try go_wp2_with fail)
      refine hK.out _ _ ?_ (fun hHeld => ?_)
      · exact ⟨keepc (by go_grown) hl3 y0, keepc (by go_grown) hl3 y1, keepc (by go_grown) hl3 y2, keepc (by go_grown) hl3 y3, keepc (by go_grown) hl3 y4, keepc (by go_grown) hl3 y5, keepc (by go_grown) hl3 y6, keepc (by go_grown) hl3 y7, keepc (by go_grown) hl3 y8⟩
      clear hK K
      (try simp only [Act.put, List.setIfInBounds_toArray, List.set_cons_zero, List.set_cons_succ])
      refine tL 5 (some 28) ?_
      refine tL 6 (some 34) ?_
      refine tL 7 (some 35) ?_
      refine wpAnyH_ready (rs := [9]) (by kernel_rfl) (by simp) ?_
      refine AllReadyH.cons (o := _) rfl (fun K hK => ?_) AllReadyH.nil
      go_simp
      refine hK.out _ _ ?_ (fun hHeld => ?_)
      · exact ⟨keepc (by go_grown) hl3 y0, keepc (by go_grown) hl3 y1, keepc (by go_grown) hl3 y2, keepc (by go_grown) hl3 y3, keepc (by go_grown) hl3 y4, keepc (by go_grown) hl3 y5, keepc (by go_grown) hl3 y6, keepc (by go_grown) hl3 y7, keepc (by go_grown) hl3 y8⟩
      clear hK K
      (try simp only [Act.put, List.setIfInBounds_toArray, List.set_cons_zero, List.set_cons_succ])
      refine tL 10 (some 7) ?_
      refine wpAnyH_done (by kernel_rfl) ?_ _
      go_wp2_with fail
      go_meet
      refine ⟨_, i, q, rfl, rfl, ?_, ?_, ?_, HQ.out, ?_⟩
      all_goals first | exact set2_0 kA | exact set2_1 kB | (simp [*]; done) | (simp; omega) | (simp [*]; omega) | (go_grown; done)
    exact AllReadyH.nil
  case rest =>
    obtain ⟨g, i, q, rfl, rfl, ⟨hg, hgl⟩, d0, d1, hq, hB⟩ := hcut
    have HQ := Go.Lib.hid hq
    clear hq
    have x0 := (hB.cell (p := ⟨w.heap.size + 1, 0, none⟩) hz3).trans r0
    have x1 := (hB.cell (p := ⟨w.heap.size + 1, 1, none⟩) hz3).trans r1
    have v0 := (hB.frozen (p := ⟨w.heap.size + 1, 0, none⟩) hz3).trans f0
    have v1 := (hB.frozen (p := ⟨w.heap.size + 1, 1, none⟩) hz3).trans f1
    have eg : ¬ g = w.heap.size + 1 := by omega
    have eg' : ¬ w.heap.size + 1 = g := by omega
    have hbc : Below w.heap.size w wc := bstep hbw3 (Nat.le_refl _) hB
    clear hB r0 r1 f0 f1
    go_wp2
    refine bodyPost_ret (v := .tuple #[.agg #[.int .i64 0, .int .i64 0], .bool false]) (by simp [results, Tryz.results66, go_sem, x0, x1]) rfl ?_
    exact nsp_no HOK.out (by go_grown)
theorem c_NodeSortI {B : Nat} {a : Option Addr} {len cap : Nat} {ns : List ND} (x : ND) (hx : x.name.size ≤ maxLen) (w : World) (hBw : B ≤ w.heap.size) (h : NodesAt B w a len cap ns) :
    Calls Tryz.prog 66 #[.slice a len cap, .agg x.cells.toArray] w (NSP ns x w) := by
  by_cases h60 : len ≤ 60
  · by_cases hp : prtOk ns x
    · by_cases hq : numOk x
      · by_cases hr : nmOk x = true
        · by_cases hk : kOk x (srt ns x 0) (srt ns x 1) (srt ns x 2)
          · exact c_NodeSortI_yes x hx w hBw h h60 hp hq hr hk
          · exact c_NodeSortI_no x hx w hBw h h60 hp hq hr hk
        · exact c_NodeSortI_name x hx w hBw h h60 hp hq (by simpa using hr)
      · exact c_NodeSortI_num x hx w hBw h h60 hp hq
    · exact c_NodeSortI_parts x hx w hBw h h60 hp
  · exact c_NodeSortI_long x w h.1 (Nat.le_trans h.2.1 h.2.2.1) (by omega)
end Go.Proofs.YtbkcecilbpngcaaGreat
