/-
  Parts: PSortI, PSortJ.
-/
import Derived.Test.YtbkcecilbpngcaaGreatRows
import Derived.Test.YtbkcecilbpngcaaGreatPaA
import Derived.Test.YtbkcecilbpngcaaGreatNodeM
import Derived.Test.YtbkcecilbpngcaaGreatNames
import Derived.Test.YtbkcecilbpngcaaGreatFieldsS
import Derived.Test.YtbkcecilbpngcaaGreatNodeL
import Derived.Test.YtbkcecilbpngcaaGreatResP
import Derived.Test.YtbkcecilbpngcaaGreatNSortI
import Derived.Test.YtbkcecilbpngcaaGreatPartsI
import Derived.WalkKit
import Derived.ProofKit
import Derived.OpenShut
import Derived.WalkSpells
import Derived.WalkLawsBesides
import Derived.Outline
import Derived.BigQuiet
import Derived.Handy
import Derived.LoopTactic
import Derived.Deep.Light
import Derived.Lib.Hide
import Derived.Deep.DeepCutAuto
import Derived.Deep.CutBlock
/-! The places and sorts of a node's parts, as the program gathers them. -/
namespace Go.Proofs.YtbkcecilbpngcaaGreat
open Go.ChangeShapes Go.WideShapes Go.ChangeAt Go.RowKit
set_option linter.unusedVariables false

/-- The places of a node's parts, in a new row. -/
def PlacesAt (x : ND) (w : World) (e : Ending) (w' : World) : Prop :=
  ∃ g : Nat, e = .returned (.slice (some ⟨g, 0, none⟩) (pcI x.kind).toNat 3) ∧ w.heap.size ≤ g ∧ g < w'.heap.size ∧ (∀ t, t < 3 → w'.cell? ⟨g, t, none⟩ = some (.int .i64 (partAt x t))) ∧ Below w.heap.size w w'
theorem pcI_cases (k : Int) : pcI k = 0 ∨ pcI k = 1 ∨ pcI k = 2 ∨ pcI k = 3 := by unfold pcI; have := pcN_cases k; split <;> omega
theorem c_nodeParts (x : ND) (w : World) :
    Calls Tryz.prog 106 #[.agg x.cells.toArray] w (PlacesAt x w) := by
  have hc := pcI_cases x.kind
  have hc0 : 0 ≤ pcI x.kind := by omega
  have hc3 : pcI x.kind ≤ 3 := by omega
  have HP := Go.Lib.hid (show ∀ t, t < 3 → partAt x t = [x.a, x.b, x.c].getD t 0 by intro t ht; rcases (by omega : t = 0 ∨ t = 1 ∨ t = 2) with rfl | rfl | rfl <;> rfl)
  obtain ⟨k, pa, pb, pc, n, m, si, sw, nm⟩ := x
  simp only [ND.cells] at *
  clear hc
  go_enter Tryz.func106, Tryz.ntmps106
  go_wp2_with (first | (go_at_call 86; refine (c_partCount _ _).mono ?_; rintro e w' ⟨rfl, rfl⟩))
  go_ret
  refine ⟨w.heap.size + 1, rfl, by omega, by simp, ?_, by go_grown⟩
  intro t ht
  rcases (by omega : t = 0 ∨ t = 1 ∨ t = 2) with rfl | rfl | rfl <;> simp [partAt]
end Go.Proofs.YtbkcecilbpngcaaGreat

/-! The places and sorts of a node's parts, as the program gathers them. -/
namespace Go.Proofs.YtbkcecilbpngcaaGreat
open Go.ChangeShapes Go.WideShapes Go.ChangeAt Go.RowKit
set_option linter.unusedVariables false

def z6 : Array Value := #[.int .i64 0, .int .i64 0, .int .i64 0, .int .i64 0, .int .i64 0, .int .i64 0]
theorem z6_get {i : Nat} (h : i < 6) : z6[i]? = some (.int .i64 0) := by
  rcases (by omega : i = 0 ∨ i = 1 ∨ i = 2 ∨ i = 3 ∨ i = 4 ∨ i = 5) with rfl | rfl | rfl | rfl | rfl | rfl <;> rfl
theorem cellMid6 (w : World) (A : Obj) (t : TypeId) (C : Obj) (i : Nat) (h : i < 6) : (((w.alloc A).alloc (.cells z6 t)).alloc C).cell? ⟨w.heap.size + 1, i, none⟩ = some (.int .i64 0) :=
  (cell_of_row _ _ i z6 t (0, 0) (heap_alloc2_at w A _ C)).trans (z6_get h)
theorem frozenMid (w : World) (A : Obj) (cs : Array Value) (t : TypeId) (C : Obj) (i : Nat) : (((w.alloc A).alloc (.cells cs t)).alloc C).frozen? ⟨w.heap.size + 1, i, none⟩ = false := by
  have h := heap_alloc2_at w A (.cells cs t) C
  simp only [World.frozen?]
  rw [h]
  simp
theorem heap3_at (w : World) (A B C : Obj) : (((w.alloc A).alloc B).alloc C).heap[w.heap.size + 1 + 1]? = some C := by
  have e : ((w.alloc A).alloc B).heap.size = w.heap.size + 1 + 1 := by simp
  rw [← e]; exact heap_alloc_new _ _
theorem cellLast6 (w : World) (A B : Obj) (t : TypeId) (i : Nat) (h : i < 6) : (((w.alloc A).alloc B).alloc (.cells z6 t)).cell? ⟨w.heap.size + 1 + 1, i, none⟩ = some (.int .i64 0) :=
  (cell_of_row _ _ i z6 t (0, 0) (heap3_at w A B _)).trans (z6_get h)
theorem frozenLast (w : World) (A B : Obj) (cs : Array Value) (t : TypeId) (i : Nat) : (((w.alloc A).alloc B).alloc (.cells cs t)).frozen? ⟨w.heap.size + 1 + 1, i, none⟩ = false := by
  have h := heap3_at w A B (.cells cs t)
  simp only [World.frozen?]
  rw [h]
  simp
/-- The sorts of the three parts as an array. -/
def sorts3 (ns : List ND) (x : ND) : Value := .agg #[.int .i64 (srt ns x 0).1, .int .i64 (srt ns x 0).2, .int .i64 (srt ns x 1).1, .int .i64 (srt ns x 1).2, .int .i64 (srt ns x 2).1, .int .i64 (srt ns x 2).2]
set_option maxRecDepth 100000 in
set_option maxHeartbeats 40000000 in
theorem c_partSorts0 {B : Nat} {a : Option Addr} {len cap : Nat} {ns : List ND} (x : ND) (w : World) (hBw : B ≤ w.heap.size) (h : NodesAt B w a len cap ns) (hpt : ptsOk len x) (hp : pcN x.kind = 0) :
    Calls Tryz.prog 98 #[.slice a len cap, .agg x.cells.toArray] w fun e w' => e = .returned (sorts3 ns x) ∧ Below w.heap.size w w' := by
  have hpi : pcI x.kind = 0 := by unfold pcI; rw [hp]; rfl
  have HS0 := Go.Lib.hid (show srt ns x 0 = (0, 0) by unfold srt; rw [if_neg (by omega)])
  have HS1 := Go.Lib.hid (show srt ns x 1 = (0, 0) by unfold srt; rw [if_neg (by omega)])
  have HS2 := Go.Lib.hid (show srt ns x 2 = (0, 0) by unfold srt; rw [if_neg (by omega)])
  clear h hpt
  obtain ⟨k, pa, pb, pc, n, m, si, sw, nm⟩ := x
  simp only [ND.cells] at *
  go_enter Tryz.func98, Tryz.ntmps98
  go_wp2_with fail
  refine (c_nodeParts ⟨k, pa, pb, pc, n, m, si, sw, nm⟩ _).mono ?_
  rintro e w1 ⟨g, rfl, hg, hglt, hgc, hB1⟩
  have G0 : w1.cell? ⟨g, 0, none⟩ = some (.int .i64 pa) := hgc 0 (by omega)
  have G1 : w1.cell? ⟨g, 1, none⟩ = some (.int .i64 pb) := hgc 1 (by omega)
  have G2 : w1.cell? ⟨g, 2, none⟩ = some (.int .i64 pc) := hgc 2 (by omega)
  have hg3 : w.heap.size + 3 ≤ g := by simpa using hg
  have hsz : w.heap.size + 3 ≤ w1.heap.size := by have := hB1.size; simp at this; omega
  have hsz2 : w.heap.size + 1 + 1 < w1.heap.size := by omega
  have hsz1 : w.heap.size + 1 < w1.heap.size := by omega
  have eg : ¬ g = w.heap.size + 1 + 1 := by omega
  have eg' : ¬ w.heap.size + 1 + 1 = g := by omega
  have X0 : ∀ i, i < 6 → w1.cell? ⟨w.heap.size + 1, i, none⟩ = some (.int .i64 0) ∧ w1.frozen? ⟨w.heap.size + 1, i, none⟩ = false := fun i hi => ⟨(hB1.cell (p := ⟨w.heap.size + 1, i, none⟩) (by simp)).trans (cellMid6 _ _ _ _ i hi), (hB1.frozen (p := ⟨w.heap.size + 1, i, none⟩) (by simp)).trans (frozenMid _ _ _ _ _ i)⟩
  have Y0 : ∀ i, i < 6 → w1.cell? ⟨w.heap.size + 1 + 1, i, none⟩ = some (.int .i64 0) ∧ w1.frozen? ⟨w.heap.size + 1 + 1, i, none⟩ = false := fun i hi => ⟨(hB1.cell (p := ⟨w.heap.size + 1 + 1, i, none⟩) (by simp)).trans (cellLast6 _ _ _ _ i hi), (hB1.frozen (p := ⟨w.heap.size + 1 + 1, i, none⟩) (by simp)).trans (frozenLast _ _ _ _ _ i)⟩
  obtain ⟨xa0, xf0⟩ := X0 0 (by omega)
  obtain ⟨ya0, yf0⟩ := Y0 0 (by omega)
  obtain ⟨xa1, xf1⟩ := X0 1 (by omega)
  obtain ⟨ya1, yf1⟩ := Y0 1 (by omega)
  obtain ⟨xa2, xf2⟩ := X0 2 (by omega)
  obtain ⟨ya2, yf2⟩ := Y0 2 (by omega)
  obtain ⟨xa3, xf3⟩ := X0 3 (by omega)
  obtain ⟨ya3, yf3⟩ := Y0 3 (by omega)
  obtain ⟨xa4, xf4⟩ := X0 4 (by omega)
  obtain ⟨ya4, yf4⟩ := Y0 4 (by omega)
  obtain ⟨xa5, xf5⟩ := X0 5 (by omega)
  obtain ⟨ya5, yf5⟩ := Y0 5 (by omega)
  clear X0 Y0
  have hbw := Go.Lib.hid (bstep (show Below w.heap.size w _ by go_grown) (Nat.le_refl _) hB1)
  clear hgc hB1 hg hg3 hglt hsz
  go_wp2
  go_rounds 4
  refine bodyPost_ret (v := .agg #[.int .i64 0, .int .i64 0, .int .i64 0, .int .i64 0, .int .i64 0, .int .i64 0]) (by simp [results, Tryz.results98, go_sem, xa0, xa1, xa2, xa3, xa4, xa5]) rfl ⟨?_, ?_⟩
  · unfold sorts3; rw [HS0.out, HS1.out, HS2.out]
    (try rfl)
  · have hbw' := hbw.out
    clear hbw
    go_grown
set_option maxRecDepth 100000 in
set_option maxHeartbeats 40000000 in
theorem c_partSorts1 {B : Nat} {a : Option Addr} {len cap : Nat} {ns : List ND} (x : ND) (w : World) (hBw : B ≤ w.heap.size) (h : NodesAt B w a len cap ns) (hpt : ptsOk len x) (hp : pcN x.kind = 1) :
    Calls Tryz.prog 98 #[.slice a len cap, .agg x.cells.toArray] w fun e w' => e = .returned (sorts3 ns x) ∧ Below w.heap.size w w' := by
  have hpi : pcI x.kind = 1 := by unfold pcI; rw [hp]; rfl
  have HS0 := Go.Lib.hid (show srt ns x 0 = sortAt ns (partAt x 0) by unfold srt; rw [if_pos (by omega)])
  have HS1 := Go.Lib.hid (show srt ns x 1 = (0, 0) by unfold srt; rw [if_neg (by omega)])
  have HS2 := Go.Lib.hid (show srt ns x 2 = (0, 0) by unfold srt; rw [if_neg (by omega)])
  have hi0 : 0 ≤ partAt x 0 ∧ partAt x 0 < len := by have := hpt.1; unfold ptOk at this; rw [if_pos (by omega)] at this; exact this
  obtain ⟨b, off, rfl, hb, hn⟩ := nd_in h (by omega)
  obtain ⟨m0, o0⟩ := hn _ hi0.1 hi0.2
  clear h hpt
  clear hn
  obtain ⟨k, pa, pb, pc, n, m, si, sw, nm⟩ := x
  simp only [ND.cells] at *
  have hh0 : 0 ≤ pa ∧ pa < len := hi0
  obtain ⟨ha0, hb0⟩ := hh0
  have mm0 : w.cell? ⟨b, off + pa.toNat * 9 + 6, none⟩ = some (.int .i64 (sortAt ns pa).1) := m0
  have oo0 : w.cell? ⟨b, off + pa.toNat * 9 + 7, none⟩ = some (.int .i64 (sortAt ns pa).2) := o0
  generalize hq0 : sortAt ns pa = q0 at mm0 oo0
  obtain ⟨qi0, qw0⟩ := q0
  have HQ0 := Go.Lib.hid hq0
  clear hq0 m0 o0 hi0
  simp only at mm0 oo0
  go_enter Tryz.func98, Tryz.ntmps98
  go_wp2_with fail
  refine (c_nodeParts ⟨k, pa, pb, pc, n, m, si, sw, nm⟩ _).mono ?_
  rintro e w1 ⟨g, rfl, hg, hglt, hgc, hB1⟩
  have G0 : w1.cell? ⟨g, 0, none⟩ = some (.int .i64 pa) := hgc 0 (by omega)
  have G1 : w1.cell? ⟨g, 1, none⟩ = some (.int .i64 pb) := hgc 1 (by omega)
  have G2 : w1.cell? ⟨g, 2, none⟩ = some (.int .i64 pc) := hgc 2 (by omega)
  have hg3 : w.heap.size + 3 ≤ g := by simpa using hg
  have hsz : w.heap.size + 3 ≤ w1.heap.size := by have := hB1.size; simp at this; omega
  have hsz2 : w.heap.size + 1 + 1 < w1.heap.size := by omega
  have hsz1 : w.heap.size + 1 < w1.heap.size := by omega
  have eg : ¬ g = w.heap.size + 1 + 1 := by omega
  have eg' : ¬ w.heap.size + 1 + 1 = g := by omega
  have X0 : ∀ i, i < 6 → w1.cell? ⟨w.heap.size + 1, i, none⟩ = some (.int .i64 0) ∧ w1.frozen? ⟨w.heap.size + 1, i, none⟩ = false := fun i hi => ⟨(hB1.cell (p := ⟨w.heap.size + 1, i, none⟩) (by simp)).trans (cellMid6 _ _ _ _ i hi), (hB1.frozen (p := ⟨w.heap.size + 1, i, none⟩) (by simp)).trans (frozenMid _ _ _ _ _ i)⟩
  have Y0 : ∀ i, i < 6 → w1.cell? ⟨w.heap.size + 1 + 1, i, none⟩ = some (.int .i64 0) ∧ w1.frozen? ⟨w.heap.size + 1 + 1, i, none⟩ = false := fun i hi => ⟨(hB1.cell (p := ⟨w.heap.size + 1 + 1, i, none⟩) (by simp)).trans (cellLast6 _ _ _ _ i hi), (hB1.frozen (p := ⟨w.heap.size + 1 + 1, i, none⟩) (by simp)).trans (frozenLast _ _ _ _ _ i)⟩
  obtain ⟨xa0, xf0⟩ := X0 0 (by omega)
  obtain ⟨ya0, yf0⟩ := Y0 0 (by omega)
  obtain ⟨xa1, xf1⟩ := X0 1 (by omega)
  obtain ⟨ya1, yf1⟩ := Y0 1 (by omega)
  obtain ⟨xa2, xf2⟩ := X0 2 (by omega)
  obtain ⟨ya2, yf2⟩ := Y0 2 (by omega)
  obtain ⟨xa3, xf3⟩ := X0 3 (by omega)
  obtain ⟨ya3, yf3⟩ := Y0 3 (by omega)
  obtain ⟨xa4, xf4⟩ := X0 4 (by omega)
  obtain ⟨ya4, yf4⟩ := Y0 4 (by omega)
  obtain ⟨xa5, xf5⟩ := X0 5 (by omega)
  obtain ⟨ya5, yf5⟩ := Y0 5 (by omega)
  clear X0 Y0
  have hbw := Go.Lib.hid (bstep (show Below w.heap.size w _ by go_grown) (Nat.le_refl _) hB1)
  have eb : ¬ b = w.heap.size + 1 + 1 := by omega
  have eb' : ¬ w.heap.size + 1 + 1 = b := by omega
  have M0 := (hbw.out.cell (p := ⟨b, off + pa.toNat * 9 + 6, none⟩) (by show b < _; omega)).trans mm0
  have O0 := (hbw.out.cell (p := ⟨b, off + pa.toNat * 9 + 7, none⟩) (by show b < _; omega)).trans oo0
  clear mm0 oo0
  clear hgc hB1 hg hg3 hglt hsz
  go_wp2
  go_rounds 4
  refine bodyPost_ret (v := .agg #[.int .i64 qi0, .int .i64 qw0, .int .i64 0, .int .i64 0, .int .i64 0, .int .i64 0]) (by simp [results, Tryz.results98, go_sem, xa0, xa1, xa2, xa3, xa4, xa5]) rfl ⟨?_, ?_⟩
  · unfold sorts3; rw [HS0.out, HS1.out, HS2.out]
    rw [show partAt ⟨k, pa, pb, pc, n, m, si, sw, nm⟩ 0 = pa from rfl, HQ0.out]
  · have hbw' := hbw.out
    clear hbw
    go_grown
set_option maxRecDepth 100000 in
set_option maxHeartbeats 40000000 in
theorem c_partSorts2 {B : Nat} {a : Option Addr} {len cap : Nat} {ns : List ND} (x : ND) (w : World) (hBw : B ≤ w.heap.size) (h : NodesAt B w a len cap ns) (hpt : ptsOk len x) (hp : pcN x.kind = 2) :
    Calls Tryz.prog 98 #[.slice a len cap, .agg x.cells.toArray] w fun e w' => e = .returned (sorts3 ns x) ∧ Below w.heap.size w w' := by
  have hpi : pcI x.kind = 2 := by unfold pcI; rw [hp]; rfl
  have HS0 := Go.Lib.hid (show srt ns x 0 = sortAt ns (partAt x 0) by unfold srt; rw [if_pos (by omega)])
  have HS1 := Go.Lib.hid (show srt ns x 1 = sortAt ns (partAt x 1) by unfold srt; rw [if_pos (by omega)])
  have HS2 := Go.Lib.hid (show srt ns x 2 = (0, 0) by unfold srt; rw [if_neg (by omega)])
  have hi0 : 0 ≤ partAt x 0 ∧ partAt x 0 < len := by have := hpt.1; unfold ptOk at this; rw [if_pos (by omega)] at this; exact this
  have hi1 : 0 ≤ partAt x 1 ∧ partAt x 1 < len := by have := hpt.2.1; unfold ptOk at this; rw [if_pos (by omega)] at this; exact this
  obtain ⟨b, off, rfl, hb, hn⟩ := nd_in h (by omega)
  obtain ⟨m0, o0⟩ := hn _ hi0.1 hi0.2
  obtain ⟨m1, o1⟩ := hn _ hi1.1 hi1.2
  clear h hpt
  clear hn
  obtain ⟨k, pa, pb, pc, n, m, si, sw, nm⟩ := x
  simp only [ND.cells] at *
  have hh0 : 0 ≤ pa ∧ pa < len := hi0
  obtain ⟨ha0, hb0⟩ := hh0
  have mm0 : w.cell? ⟨b, off + pa.toNat * 9 + 6, none⟩ = some (.int .i64 (sortAt ns pa).1) := m0
  have oo0 : w.cell? ⟨b, off + pa.toNat * 9 + 7, none⟩ = some (.int .i64 (sortAt ns pa).2) := o0
  generalize hq0 : sortAt ns pa = q0 at mm0 oo0
  obtain ⟨qi0, qw0⟩ := q0
  have HQ0 := Go.Lib.hid hq0
  clear hq0 m0 o0 hi0
  simp only at mm0 oo0
  have hh1 : 0 ≤ pb ∧ pb < len := hi1
  obtain ⟨ha1, hb1⟩ := hh1
  have mm1 : w.cell? ⟨b, off + pb.toNat * 9 + 6, none⟩ = some (.int .i64 (sortAt ns pb).1) := m1
  have oo1 : w.cell? ⟨b, off + pb.toNat * 9 + 7, none⟩ = some (.int .i64 (sortAt ns pb).2) := o1
  generalize hq1 : sortAt ns pb = q1 at mm1 oo1
  obtain ⟨qi1, qw1⟩ := q1
  have HQ1 := Go.Lib.hid hq1
  clear hq1 m1 o1 hi1
  simp only at mm1 oo1
  go_enter Tryz.func98, Tryz.ntmps98
  go_wp2_with fail
  refine (c_nodeParts ⟨k, pa, pb, pc, n, m, si, sw, nm⟩ _).mono ?_
  rintro e w1 ⟨g, rfl, hg, hglt, hgc, hB1⟩
  have G0 : w1.cell? ⟨g, 0, none⟩ = some (.int .i64 pa) := hgc 0 (by omega)
  have G1 : w1.cell? ⟨g, 1, none⟩ = some (.int .i64 pb) := hgc 1 (by omega)
  have G2 : w1.cell? ⟨g, 2, none⟩ = some (.int .i64 pc) := hgc 2 (by omega)
  have hg3 : w.heap.size + 3 ≤ g := by simpa using hg
  have hsz : w.heap.size + 3 ≤ w1.heap.size := by have := hB1.size; simp at this; omega
  have hsz2 : w.heap.size + 1 + 1 < w1.heap.size := by omega
  have hsz1 : w.heap.size + 1 < w1.heap.size := by omega
  have eg : ¬ g = w.heap.size + 1 + 1 := by omega
  have eg' : ¬ w.heap.size + 1 + 1 = g := by omega
  have X0 : ∀ i, i < 6 → w1.cell? ⟨w.heap.size + 1, i, none⟩ = some (.int .i64 0) ∧ w1.frozen? ⟨w.heap.size + 1, i, none⟩ = false := fun i hi => ⟨(hB1.cell (p := ⟨w.heap.size + 1, i, none⟩) (by simp)).trans (cellMid6 _ _ _ _ i hi), (hB1.frozen (p := ⟨w.heap.size + 1, i, none⟩) (by simp)).trans (frozenMid _ _ _ _ _ i)⟩
  have Y0 : ∀ i, i < 6 → w1.cell? ⟨w.heap.size + 1 + 1, i, none⟩ = some (.int .i64 0) ∧ w1.frozen? ⟨w.heap.size + 1 + 1, i, none⟩ = false := fun i hi => ⟨(hB1.cell (p := ⟨w.heap.size + 1 + 1, i, none⟩) (by simp)).trans (cellLast6 _ _ _ _ i hi), (hB1.frozen (p := ⟨w.heap.size + 1 + 1, i, none⟩) (by simp)).trans (frozenLast _ _ _ _ _ i)⟩
  obtain ⟨xa0, xf0⟩ := X0 0 (by omega)
  obtain ⟨ya0, yf0⟩ := Y0 0 (by omega)
  obtain ⟨xa1, xf1⟩ := X0 1 (by omega)
  obtain ⟨ya1, yf1⟩ := Y0 1 (by omega)
  obtain ⟨xa2, xf2⟩ := X0 2 (by omega)
  obtain ⟨ya2, yf2⟩ := Y0 2 (by omega)
  obtain ⟨xa3, xf3⟩ := X0 3 (by omega)
  obtain ⟨ya3, yf3⟩ := Y0 3 (by omega)
  obtain ⟨xa4, xf4⟩ := X0 4 (by omega)
  obtain ⟨ya4, yf4⟩ := Y0 4 (by omega)
  obtain ⟨xa5, xf5⟩ := X0 5 (by omega)
  obtain ⟨ya5, yf5⟩ := Y0 5 (by omega)
  clear X0 Y0
  have hbw := Go.Lib.hid (bstep (show Below w.heap.size w _ by go_grown) (Nat.le_refl _) hB1)
  have eb : ¬ b = w.heap.size + 1 + 1 := by omega
  have eb' : ¬ w.heap.size + 1 + 1 = b := by omega
  have M0 := (hbw.out.cell (p := ⟨b, off + pa.toNat * 9 + 6, none⟩) (by show b < _; omega)).trans mm0
  have O0 := (hbw.out.cell (p := ⟨b, off + pa.toNat * 9 + 7, none⟩) (by show b < _; omega)).trans oo0
  clear mm0 oo0
  have M1 := (hbw.out.cell (p := ⟨b, off + pb.toNat * 9 + 6, none⟩) (by show b < _; omega)).trans mm1
  have O1 := (hbw.out.cell (p := ⟨b, off + pb.toNat * 9 + 7, none⟩) (by show b < _; omega)).trans oo1
  clear mm1 oo1
  clear hgc hB1 hg hg3 hglt hsz
  go_wp2
  go_rounds 4
  refine bodyPost_ret (v := .agg #[.int .i64 qi0, .int .i64 qw0, .int .i64 qi1, .int .i64 qw1, .int .i64 0, .int .i64 0]) (by simp [results, Tryz.results98, go_sem, xa0, xa1, xa2, xa3, xa4, xa5]) rfl ⟨?_, ?_⟩
  · unfold sorts3; rw [HS0.out, HS1.out, HS2.out]
    rw [show partAt ⟨k, pa, pb, pc, n, m, si, sw, nm⟩ 0 = pa from rfl, HQ0.out]; rw [show partAt ⟨k, pa, pb, pc, n, m, si, sw, nm⟩ 1 = pb from rfl, HQ1.out]
  · have hbw' := hbw.out
    clear hbw
    go_grown
set_option maxRecDepth 100000 in
set_option maxHeartbeats 40000000 in
theorem c_partSorts3 {B : Nat} {a : Option Addr} {len cap : Nat} {ns : List ND} (x : ND) (w : World) (hBw : B ≤ w.heap.size) (h : NodesAt B w a len cap ns) (hpt : ptsOk len x) (hp : pcN x.kind = 3) :
    Calls Tryz.prog 98 #[.slice a len cap, .agg x.cells.toArray] w fun e w' => e = .returned (sorts3 ns x) ∧ Below w.heap.size w w' := by
  have hpi : pcI x.kind = 3 := by unfold pcI; rw [hp]; rfl
  have HS0 := Go.Lib.hid (show srt ns x 0 = sortAt ns (partAt x 0) by unfold srt; rw [if_pos (by omega)])
  have HS1 := Go.Lib.hid (show srt ns x 1 = sortAt ns (partAt x 1) by unfold srt; rw [if_pos (by omega)])
  have HS2 := Go.Lib.hid (show srt ns x 2 = sortAt ns (partAt x 2) by unfold srt; rw [if_pos (by omega)])
  have hi0 : 0 ≤ partAt x 0 ∧ partAt x 0 < len := by have := hpt.1; unfold ptOk at this; rw [if_pos (by omega)] at this; exact this
  have hi1 : 0 ≤ partAt x 1 ∧ partAt x 1 < len := by have := hpt.2.1; unfold ptOk at this; rw [if_pos (by omega)] at this; exact this
  have hi2 : 0 ≤ partAt x 2 ∧ partAt x 2 < len := by have := hpt.2.2; unfold ptOk at this; rw [if_pos (by omega)] at this; exact this
  obtain ⟨b, off, rfl, hb, hn⟩ := nd_in h (by omega)
  obtain ⟨m0, o0⟩ := hn _ hi0.1 hi0.2
  obtain ⟨m1, o1⟩ := hn _ hi1.1 hi1.2
  obtain ⟨m2, o2⟩ := hn _ hi2.1 hi2.2
  clear h hpt
  clear hn
  obtain ⟨k, pa, pb, pc, n, m, si, sw, nm⟩ := x
  simp only [ND.cells] at *
  have hh0 : 0 ≤ pa ∧ pa < len := hi0
  obtain ⟨ha0, hb0⟩ := hh0
  have mm0 : w.cell? ⟨b, off + pa.toNat * 9 + 6, none⟩ = some (.int .i64 (sortAt ns pa).1) := m0
  have oo0 : w.cell? ⟨b, off + pa.toNat * 9 + 7, none⟩ = some (.int .i64 (sortAt ns pa).2) := o0
  generalize hq0 : sortAt ns pa = q0 at mm0 oo0
  obtain ⟨qi0, qw0⟩ := q0
  have HQ0 := Go.Lib.hid hq0
  clear hq0 m0 o0 hi0
  simp only at mm0 oo0
  have hh1 : 0 ≤ pb ∧ pb < len := hi1
  obtain ⟨ha1, hb1⟩ := hh1
  have mm1 : w.cell? ⟨b, off + pb.toNat * 9 + 6, none⟩ = some (.int .i64 (sortAt ns pb).1) := m1
  have oo1 : w.cell? ⟨b, off + pb.toNat * 9 + 7, none⟩ = some (.int .i64 (sortAt ns pb).2) := o1
  generalize hq1 : sortAt ns pb = q1 at mm1 oo1
  obtain ⟨qi1, qw1⟩ := q1
  have HQ1 := Go.Lib.hid hq1
  clear hq1 m1 o1 hi1
  simp only at mm1 oo1
  have hh2 : 0 ≤ pc ∧ pc < len := hi2
  obtain ⟨ha2, hb2⟩ := hh2
  have mm2 : w.cell? ⟨b, off + pc.toNat * 9 + 6, none⟩ = some (.int .i64 (sortAt ns pc).1) := m2
  have oo2 : w.cell? ⟨b, off + pc.toNat * 9 + 7, none⟩ = some (.int .i64 (sortAt ns pc).2) := o2
  generalize hq2 : sortAt ns pc = q2 at mm2 oo2
  obtain ⟨qi2, qw2⟩ := q2
  have HQ2 := Go.Lib.hid hq2
  clear hq2 m2 o2 hi2
  simp only at mm2 oo2
  go_enter Tryz.func98, Tryz.ntmps98
  go_wp2_with fail
  refine (c_nodeParts ⟨k, pa, pb, pc, n, m, si, sw, nm⟩ _).mono ?_
  rintro e w1 ⟨g, rfl, hg, hglt, hgc, hB1⟩
  have G0 : w1.cell? ⟨g, 0, none⟩ = some (.int .i64 pa) := hgc 0 (by omega)
  have G1 : w1.cell? ⟨g, 1, none⟩ = some (.int .i64 pb) := hgc 1 (by omega)
  have G2 : w1.cell? ⟨g, 2, none⟩ = some (.int .i64 pc) := hgc 2 (by omega)
  have hg3 : w.heap.size + 3 ≤ g := by simpa using hg
  have hsz : w.heap.size + 3 ≤ w1.heap.size := by have := hB1.size; simp at this; omega
  have hsz2 : w.heap.size + 1 + 1 < w1.heap.size := by omega
  have hsz1 : w.heap.size + 1 < w1.heap.size := by omega
  have eg : ¬ g = w.heap.size + 1 + 1 := by omega
  have eg' : ¬ w.heap.size + 1 + 1 = g := by omega
  have X0 : ∀ i, i < 6 → w1.cell? ⟨w.heap.size + 1, i, none⟩ = some (.int .i64 0) ∧ w1.frozen? ⟨w.heap.size + 1, i, none⟩ = false := fun i hi => ⟨(hB1.cell (p := ⟨w.heap.size + 1, i, none⟩) (by simp)).trans (cellMid6 _ _ _ _ i hi), (hB1.frozen (p := ⟨w.heap.size + 1, i, none⟩) (by simp)).trans (frozenMid _ _ _ _ _ i)⟩
  have Y0 : ∀ i, i < 6 → w1.cell? ⟨w.heap.size + 1 + 1, i, none⟩ = some (.int .i64 0) ∧ w1.frozen? ⟨w.heap.size + 1 + 1, i, none⟩ = false := fun i hi => ⟨(hB1.cell (p := ⟨w.heap.size + 1 + 1, i, none⟩) (by simp)).trans (cellLast6 _ _ _ _ i hi), (hB1.frozen (p := ⟨w.heap.size + 1 + 1, i, none⟩) (by simp)).trans (frozenLast _ _ _ _ _ i)⟩
  obtain ⟨xa0, xf0⟩ := X0 0 (by omega)
  obtain ⟨ya0, yf0⟩ := Y0 0 (by omega)
  obtain ⟨xa1, xf1⟩ := X0 1 (by omega)
  obtain ⟨ya1, yf1⟩ := Y0 1 (by omega)
  obtain ⟨xa2, xf2⟩ := X0 2 (by omega)
  obtain ⟨ya2, yf2⟩ := Y0 2 (by omega)
  obtain ⟨xa3, xf3⟩ := X0 3 (by omega)
  obtain ⟨ya3, yf3⟩ := Y0 3 (by omega)
  obtain ⟨xa4, xf4⟩ := X0 4 (by omega)
  obtain ⟨ya4, yf4⟩ := Y0 4 (by omega)
  obtain ⟨xa5, xf5⟩ := X0 5 (by omega)
  obtain ⟨ya5, yf5⟩ := Y0 5 (by omega)
  clear X0 Y0
  have hbw := Go.Lib.hid (bstep (show Below w.heap.size w _ by go_grown) (Nat.le_refl _) hB1)
  have eb : ¬ b = w.heap.size + 1 + 1 := by omega
  have eb' : ¬ w.heap.size + 1 + 1 = b := by omega
  have M0 := (hbw.out.cell (p := ⟨b, off + pa.toNat * 9 + 6, none⟩) (by show b < _; omega)).trans mm0
  have O0 := (hbw.out.cell (p := ⟨b, off + pa.toNat * 9 + 7, none⟩) (by show b < _; omega)).trans oo0
  clear mm0 oo0
  have M1 := (hbw.out.cell (p := ⟨b, off + pb.toNat * 9 + 6, none⟩) (by show b < _; omega)).trans mm1
  have O1 := (hbw.out.cell (p := ⟨b, off + pb.toNat * 9 + 7, none⟩) (by show b < _; omega)).trans oo1
  clear mm1 oo1
  have M2 := (hbw.out.cell (p := ⟨b, off + pc.toNat * 9 + 6, none⟩) (by show b < _; omega)).trans mm2
  have O2 := (hbw.out.cell (p := ⟨b, off + pc.toNat * 9 + 7, none⟩) (by show b < _; omega)).trans oo2
  clear mm2 oo2
  clear hgc hB1 hg hg3 hglt hsz
  go_upto_block 0 with fail
  go_cut [11] (fun s11 wx => wx.cell? ⟨w.heap.size + 1 + 1, 0, none⟩ = some (.int .i64 qi0) ∧ wx.cell? ⟨w.heap.size + 1 + 1, 1, none⟩ = some (.int .i64 qw0) ∧ wx.cell? ⟨w.heap.size + 1 + 1, 2, none⟩ = some (.int .i64 qi1) ∧ wx.cell? ⟨w.heap.size + 1 + 1, 3, none⟩ = some (.int .i64 qw1) ∧ wx.cell? ⟨w.heap.size + 1 + 1, 4, none⟩ = some (.int .i64 qi2) ∧ wx.cell? ⟨w.heap.size + 1 + 1, 5, none⟩ = some (.int .i64 qw2) ∧ wx.cell? ⟨w.heap.size + 1, 0, none⟩ = some (.int .i64 0) ∧ wx.frozen? ⟨w.heap.size + 1, 0, none⟩ = false ∧ wx.cell? ⟨w.heap.size + 1, 1, none⟩ = some (.int .i64 0) ∧ wx.frozen? ⟨w.heap.size + 1, 1, none⟩ = false ∧ wx.cell? ⟨w.heap.size + 1, 2, none⟩ = some (.int .i64 0) ∧ wx.frozen? ⟨w.heap.size + 1, 2, none⟩ = false ∧ wx.cell? ⟨w.heap.size + 1, 3, none⟩ = some (.int .i64 0) ∧ wx.frozen? ⟨w.heap.size + 1, 3, none⟩ = false ∧ wx.cell? ⟨w.heap.size + 1, 4, none⟩ = some (.int .i64 0) ∧ wx.frozen? ⟨w.heap.size + 1, 4, none⟩ = false ∧ wx.cell? ⟨w.heap.size + 1, 5, none⟩ = some (.int .i64 0) ∧ wx.frozen? ⟨w.heap.size + 1, 5, none⟩ = false ∧ Below w.heap.size w wx)
  case first =>
    go_wp2
    go_rounds 4
    go_meet
    have hin := World.cell?_setCells_in (w.heap.size + 1 + 1) [.int .i64 qi0, .int .i64 qw0, .int .i64 qi1, .int .i64 qw1, .int .i64 qi2, .int .i64 qw2] 0 w1 (fun q hq => by have hq' : q < 6 := hq; rcases (by omega : q = 0 ∨ q = 1 ∨ q = 2 ∨ q = 3 ∨ q = 4 ∨ q = 5) with rfl | rfl | rfl | rfl | rfl | rfl <;> simp [*])
    refine ⟨?_, ?_, ?_, ?_, ?_, ?_, ?_, ?_, ?_, ?_, ?_, ?_, ?_, ?_, ?_, ?_, ?_, ?_, ?_⟩
    rotate_right
    · have hbw' := hbw.out
      clear hbw
      go_grown
    · exact hin 0 (by simp)
    · exact hin 1 (by simp)
    · exact hin 2 (by simp)
    · exact hin 3 (by simp)
    · exact hin 4 (by simp)
    · exact hin 5 (by simp)
    · exact (World.cell?_setCells_out (w.heap.size + 1 + 1) [.int .i64 qi0, .int .i64 qw0, .int .i64 qi1, .int .i64 qw1, .int .i64 qi2, .int .i64 qw2] 0 w1 ⟨w.heap.size + 1, 0, none⟩ (fun e => absurd (show w.heap.size + 1 = w.heap.size + 1 + 1 from e) (by omega))).trans xa0
    · exact (World.frozen?_setCells (w.heap.size + 1 + 1) [.int .i64 qi0, .int .i64 qw0, .int .i64 qi1, .int .i64 qw1, .int .i64 qi2, .int .i64 qw2] 0 w1 _).trans xf0
    · exact (World.cell?_setCells_out (w.heap.size + 1 + 1) [.int .i64 qi0, .int .i64 qw0, .int .i64 qi1, .int .i64 qw1, .int .i64 qi2, .int .i64 qw2] 0 w1 ⟨w.heap.size + 1, 1, none⟩ (fun e => absurd (show w.heap.size + 1 = w.heap.size + 1 + 1 from e) (by omega))).trans xa1
    · exact (World.frozen?_setCells (w.heap.size + 1 + 1) [.int .i64 qi0, .int .i64 qw0, .int .i64 qi1, .int .i64 qw1, .int .i64 qi2, .int .i64 qw2] 0 w1 _).trans xf1
    · exact (World.cell?_setCells_out (w.heap.size + 1 + 1) [.int .i64 qi0, .int .i64 qw0, .int .i64 qi1, .int .i64 qw1, .int .i64 qi2, .int .i64 qw2] 0 w1 ⟨w.heap.size + 1, 2, none⟩ (fun e => absurd (show w.heap.size + 1 = w.heap.size + 1 + 1 from e) (by omega))).trans xa2
    · exact (World.frozen?_setCells (w.heap.size + 1 + 1) [.int .i64 qi0, .int .i64 qw0, .int .i64 qi1, .int .i64 qw1, .int .i64 qi2, .int .i64 qw2] 0 w1 _).trans xf2
    · exact (World.cell?_setCells_out (w.heap.size + 1 + 1) [.int .i64 qi0, .int .i64 qw0, .int .i64 qi1, .int .i64 qw1, .int .i64 qi2, .int .i64 qw2] 0 w1 ⟨w.heap.size + 1, 3, none⟩ (fun e => absurd (show w.heap.size + 1 = w.heap.size + 1 + 1 from e) (by omega))).trans xa3
    · exact (World.frozen?_setCells (w.heap.size + 1 + 1) [.int .i64 qi0, .int .i64 qw0, .int .i64 qi1, .int .i64 qw1, .int .i64 qi2, .int .i64 qw2] 0 w1 _).trans xf3
    · exact (World.cell?_setCells_out (w.heap.size + 1 + 1) [.int .i64 qi0, .int .i64 qw0, .int .i64 qi1, .int .i64 qw1, .int .i64 qi2, .int .i64 qw2] 0 w1 ⟨w.heap.size + 1, 4, none⟩ (fun e => absurd (show w.heap.size + 1 = w.heap.size + 1 + 1 from e) (by omega))).trans xa4
    · exact (World.frozen?_setCells (w.heap.size + 1 + 1) [.int .i64 qi0, .int .i64 qw0, .int .i64 qi1, .int .i64 qw1, .int .i64 qi2, .int .i64 qw2] 0 w1 _).trans xf4
    · exact (World.cell?_setCells_out (w.heap.size + 1 + 1) [.int .i64 qi0, .int .i64 qw0, .int .i64 qi1, .int .i64 qw1, .int .i64 qi2, .int .i64 qw2] 0 w1 ⟨w.heap.size + 1, 5, none⟩ (fun e => absurd (show w.heap.size + 1 = w.heap.size + 1 + 1 from e) (by omega))).trans xa5
    · exact (World.frozen?_setCells (w.heap.size + 1 + 1) [.int .i64 qi0, .int .i64 qw0, .int .i64 qi1, .int .i64 qw1, .int .i64 qi2, .int .i64 qw2] 0 w1 _).trans xf5
  case rest =>
  obtain ⟨ca0, ca1, ca2, ca3, ca4, ca5, za0, zf0, za1, zf1, za2, zf2, za3, zf3, za4, zf4, za5, zf5, hbc⟩ := hcut
  clear xa0 xa1 xa2 xa3 xa4 xa5 xf0 xf1 xf2 xf3 xf4 xf5 ya0 ya1 ya2 ya3 ya4 ya5 yf0 yf1 yf2 yf3 yf4 yf5
  clear hbw
  have hbw := Go.Lib.hid hbc
  clear hbc
  go_wp2
  refine bodyPost_ret (v := .agg #[.int .i64 qi0, .int .i64 qw0, .int .i64 qi1, .int .i64 qw1, .int .i64 qi2, .int .i64 qw2]) (by simp [results, Tryz.results98, go_sem, za0, za1, za2, za3, za4, za5]) rfl ⟨?_, ?_⟩
  · unfold sorts3; rw [HS0.out, HS1.out, HS2.out]
    rw [show partAt ⟨k, pa, pb, pc, n, m, si, sw, nm⟩ 0 = pa from rfl, HQ0.out]; rw [show partAt ⟨k, pa, pb, pc, n, m, si, sw, nm⟩ 1 = pb from rfl, HQ1.out]; rw [show partAt ⟨k, pa, pb, pc, n, m, si, sw, nm⟩ 2 = pc from rfl, HQ2.out]
  · have hbw' := hbw.out
    clear hbw
    go_grown
end Go.Proofs.YtbkcecilbpngcaaGreat
