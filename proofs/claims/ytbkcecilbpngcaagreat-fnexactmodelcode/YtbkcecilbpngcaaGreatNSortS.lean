/-
  The sort of a node: the model, whole.
-/
import Derived.Test.YtbkcecilbpngcaaGreatRows
import Derived.Test.YtbkcecilbpngcaaGreatPaA
import Derived.Test.YtbkcecilbpngcaaGreatNodeM
import Derived.Test.YtbkcecilbpngcaaGreatNames
import Derived.Test.YtbkcecilbpngcaaGreatFieldsS
import Derived.Test.YtbkcecilbpngcaaGreatNodeL
import Derived.Test.YtbkcecilbpngcaaGreatResP
import Derived.Test.YtbkcecilbpngcaaGreatResS
import Derived.Test.YtbkcecilbpngcaaGreatResT
import Derived.WalkKit
import Derived.ProofKit
import Derived.OpenShut
import Derived.WalkSpells
import Derived.WalkLawsBesides
import Derived.Outline
import Derived.BigQuiet
import Derived.Handy
import Derived.LoopTactic
import Derived.Deep.Light
import Derived.OwnWalk
import Derived.Laws.OwnMore
import Derived.Maps.AppendAt
import Derived.Deep.AppendLies
import Derived.Lib.Hide
namespace Go.Proofs.YtbkcecilbpngcaaGreat
open Go.ChangeShapes Go.WideShapes Go.ChangeAt Go.RowKit
set_option linter.unusedVariables false

theorem c_result1 (x : ND) (hp : pcN x.kind = 1) (a : Int × Int) (ha : 0 ≤ a.1) (g cap : Nat) (w : World) (h : SortsAt w g [a]) :
    Calls Tryz.prog 90 #[.agg x.cells.toArray, .slice (some ⟨g, 0, none⟩) 1 cap] w (ResP x a (0, 0) (0, 0) w) := by
  have hk : (1 ≤ x.kind ∧ x.kind ≤ 5) ∨ x.kind = 30 ∨ x.kind = 31 ∨ x.kind = 32 := by unfold pcN at hp; (repeat' split at hp) <;> omega
  rcases hk with ⟨h1, h2⟩ | h1 | h1 | h1
  · exact c_resOne x h1 h2 a ha g cap w h
  · exact c_res30 x h1 a ha g cap w h
  · exact c_res31 x h1 a ha g cap w h
  · exact c_res32 x h1 a ha g cap w h
theorem c_result2 (x : ND) (hp : pcN x.kind = 2) (a b : Int × Int) (ha : 0 ≤ a.1) (hb : 0 ≤ b.1) (g cap : Nat) (w : World) (h : SortsAt w g [a, b]) :
    Calls Tryz.prog 90 #[.agg x.cells.toArray, .slice (some ⟨g, 0, none⟩) 2 cap] w (ResP x a b (0, 0) w) := by
  have hk : x.kind = 29 ∨ x.kind = 21 ∨ x.kind = 37 ∨ (6 ≤ x.kind ∧ x.kind ≤ 28 ∧ x.kind ≠ 21) := by unfold pcN at hp; (repeat' split at hp) <;> omega
  rcases hk with h1 | h1 | h1 | ⟨h1, h2, h3⟩
  · exact c_res29 x h1 a b ha hb g cap w h
  · exact c_res21 x h1 a b g cap w h
  · exact c_res37 x h1 a b g cap w h
  · exact c_resTwo x h1 h2 h3 a b ha hb g cap w h
theorem c_result3 (x : ND) (hp : pcN x.kind = 3) (a b c : Int × Int) (g cap : Nat) (w : World) (h : SortsAt w g [a, b, c]) :
    Calls Tryz.prog 90 #[.agg x.cells.toArray, .slice (some ⟨g, 0, none⟩) 3 cap] w (ResP x a b c w) := by
  have hk : x.kind = 33 ∨ x.kind = 38 := by unfold pcN at hp; (repeat' split at hp) <;> omega
  rcases hk with h1 | h1
  · exact c_res33 x h1 a b c g cap w h
  · exact c_res38 x h1 a b c g cap w h

/-- What NodeSort tells. -/
def NSP (ns : List ND) (x : ND) (w : World) (e : Ending) (w' : World) : Prop :=
  e = .returned (.tuple #[.agg #[.int .i64 (nSort ns x).1, .int .i64 (nSort ns x).2], .bool (decide (nOk ns x))]) ∧ Below w.heap.size w w'
theorem nsp_no {ns : List ND} {x : ND} {w w' : World} (h : ¬ nOk ns x) (hb : Below w.heap.size w w') : NSP ns x w (.returned (.tuple #[.agg #[.int .i64 0, .int .i64 0], .bool false])) w' :=
  ⟨by unfold nSort; rw [if_neg h, decide_eq_false h], hb⟩
theorem nsp_yes {ns : List ND} {x : ND} {w w' : World} {i n : Int} (h : nOk ns x) (he : (i, n) = kSort x (srt ns x 0) (srt ns x 1) (srt ns x 2)) (hb : Below w.heap.size w w') : NSP ns x w (.returned (.tuple #[.agg #[.int .i64 i, .int .i64 n], .bool true])) w' :=
  ⟨by unfold nSort; rw [if_pos h, decide_eq_true h, ← he], hb⟩
theorem nOk_fld {ns : List ND} {x : ND} (h : nOk ns x) : fldOk ns.length x := ⟨h.2.1, h.2.2.1, h.2.2.2.2.1, h.2.2.2.2.2.1⟩
theorem nOk_mk {ns : List ND} {x : ND} (hl : ns.length ≤ 60) (hf : fldOk ns.length x) (hs : pssOk ns x) (hk : kOk x (srt ns x 0) (srt ns x 1) (srt ns x 2)) : nOk ns x :=
  ⟨hl, hf.1, hf.2.1, hs, hf.2.2.1, hf.2.2.2, hk⟩
theorem pss_leaf {ns : List ND} {x : ND} (hp : pcN x.kind = 0) : pssOk ns x := ⟨fun h => by omega, fun h => by omega, fun h => by omega⟩

theorem below_two_of {w w1 : World} {A B : Obj} (h : Below ((w.alloc A).alloc B).heap.size ((w.alloc A).alloc B) w1) : Below w.heap.size w w1 := by
  have h0 : Below w.heap.size w ((w.alloc A).alloc B) := by go_grown
  exact h0.trans (h.mono h0.size)
theorem below_two_set {w w1 : World} {A B : Obj} (h : Below ((w.alloc A).alloc B).heap.size ((w.alloc A).alloc B) w1) {o o' : Nat} {u u' : Value} : Below w.heap.size w ((w1.setCell ⟨w.heap.size + 1, o, none⟩ u).setCell ⟨w.heap.size + 1, o', none⟩ u') :=
  ((below_two_of h).setCell (by simp) _).setCell (by simp) _

set_option maxRecDepth 100000 in
set_option maxHeartbeats 4000000 in
theorem c_NodeSortS_long {a : Option Addr} {len cap : Nat} {ns : List ND} (x : ND) (w : World) (hl : ns.length = len) (hlen : len ≤ maxLen) (h60 : 60 < len) :
    Calls Tryz.prog 57 #[.slice a len cap, .agg x.cells.toArray] w (NSP ns x w) := by
  have hn : Hid (¬ nOk ns x) := fun h => by have := h.1; omega
  unfold maxLen at hlen
  clear hl
  obtain ⟨k, pa, pb, pc, n, m, si, sw, nm⟩ := x
  simp only [ND.cells] at *
  go_enter Tryz.func57, Tryz.ntmps57
  go_wp2_with fail
  refine bodyPost_ret (v := .tuple #[.agg #[.int .i64 0, .int .i64 0], .bool false]) (by simp [results, Tryz.results57, go_sem]) rfl ?_
  exact nsp_no hn.out (by go_grown)
set_option maxRecDepth 100000 in
set_option maxHeartbeats 4000000 in
theorem c_NodeSortS_fields {a : Option Addr} {len cap : Nat} {ns : List ND} (x : ND) (hx : x.name.size ≤ maxLen) (w : World) (hl : ns.length = len) (hlen : len ≤ 60) (hf : ¬ fldOk len x) :
    Calls Tryz.prog 57 #[.slice a len cap, .agg x.cells.toArray] w (NSP ns x w) := by
  have hn : Hid (¬ nOk ns x) := fun h => hf (hl ▸ nOk_fld h)
  have hd : decide (fldOk len x) = false := decide_eq_false hf
  clear hl hf
  have hm : len ≤ maxLen := by unfold maxLen; omega
  obtain ⟨k, pa, pb, pc, n, m, si, sw, nm⟩ := x
  simp only [ND.cells] at *
  go_enter Tryz.func57, Tryz.ntmps57
  go_wp2_with fail
  refine (c_l2Fields hm ⟨k, pa, pb, pc, n, m, si, sw, nm⟩ hx _).mono ?_
  rintro e w1 ⟨rfl, hB1⟩
  obtain ⟨hc, hfz⟩ := bcell hB1
  have HB : Hid _ := hB1
  clear hB1
  have hz : w.heap.size + 1 < w1.heap.size := by have := HB.out.size; simp at this; omega
  go_wp2_with fail
  refine bodyPost_ret (v := .tuple #[.agg #[.int .i64 0, .int .i64 0], .bool false]) (by simp [results, Tryz.results57, go_sem, hc]) rfl ?_
  exact nsp_no hn.out (below_two_set HB.out)
set_option maxRecDepth 100000 in
set_option maxHeartbeats 4000000 in
theorem c_NodeSortS_35 {a : Option Addr} {len cap : Nat} {ns : List ND} (x : ND) (hx : x.name.size ≤ maxLen) (w : World) (hl : ns.length = len) (hlen : len ≤ 60) (hf : fldOk len x) (hk : x.kind = 35) :
    Calls Tryz.prog 57 #[.slice a len cap, .agg x.cells.toArray] w (NSP ns x w) := by
  have hd : decide (fldOk len x) = true := decide_eq_true hf
  have HL : Hid (ns.length = len) := hl
  have HF : Hid (fldOk len x) := hf
  clear hl hf
  have hm : len ≤ maxLen := by unfold maxLen; omega
  obtain ⟨k, pa, pb, pc, n, m, si, sw, nm⟩ := x
  simp only [ND.cells] at *
  subst hk
  have hp : pcN 35 = 0 := by decide
  go_enter Tryz.func57, Tryz.ntmps57
  go_wp2_with fail
  refine (c_l2Fields hm ⟨_, pa, pb, pc, n, m, si, sw, nm⟩ hx _).mono ?_
  rintro e w1 ⟨rfl, hB1⟩
  obtain ⟨hc, hfz⟩ := bcell hB1
  have HB : Hid _ := hB1
  clear hB1
  have hz : w.heap.size + 1 < w1.heap.size := by have := HB.out.size; simp at this; omega
  by_cases hs : SOK si sw
  · have hs' : decide (SOK si sw) = true := decide_eq_true hs
    have HS : Hid (SOK si sw) := hs
    clear hs
    go_wp2_with (first | (go_at_call 85; refine (c_l2Parts _ _).mono ?_; rintro e w' ⟨rfl, rfl⟩))
    refine (c_SortOkS _ _ _).mono ?_
    rintro e w2 ⟨rfl, hB2⟩
    have hB2' := bstep HB.out (Nat.le_refl _) hB2
    obtain ⟨hc2, hfz2⟩ := bcell hB2'
    have HB2 : Hid _ := hB2'
    clear hB2' hc hfz
    have hz2 : w.heap.size + 1 < w2.heap.size := by have := hB2.size; omega
    clear hB2
    go_wp2_with fail
    refine bodyPost_ret (v := .tuple #[.agg #[.int .i64 si, .int .i64 sw], .bool true]) (by simp [results, Tryz.results57, go_sem, hc2]) rfl ?_
    have hok : nOk ns ⟨35, pa, pb, pc, n, m, si, sw, nm⟩ := by
      rw [← HL.out] at HF
      exact nOk_mk (by rw [HL.out]; exact hlen) HF.out (pss_leaf hp) (by simp [kOk, namedB]; exact HS.out)
    exact nsp_yes hok (by simp [kSort, namedB]) (below_two_set HB2.out)
  · have hs' : decide (SOK si sw) = false := decide_eq_false hs
    have HS : Hid (¬ SOK si sw) := hs
    clear hs
    go_wp2_with (first | (go_at_call 85; refine (c_l2Parts _ _).mono ?_; rintro e w' ⟨rfl, rfl⟩))
    refine (c_SortOkS _ _ _).mono ?_
    rintro e w2 ⟨rfl, hB2⟩
    have hB2' := bstep HB.out (Nat.le_refl _) hB2
    obtain ⟨hc2, hfz2⟩ := bcell hB2'
    have HB2 : Hid _ := hB2'
    clear hB2' hc hfz
    have hz2 : w.heap.size + 1 < w2.heap.size := by have := hB2.size; omega
    clear hB2
    go_wp2_with fail
    refine bodyPost_ret (v := .tuple #[.agg #[.int .i64 0, .int .i64 0], .bool false]) (by simp [results, Tryz.results57, go_sem, hc2]) rfl ?_
    exact nsp_no (fun h => HS.out (by have := h.2.2.2.2.2.2; simpa [kOk, namedB] using this)) (below_two_set HB2.out)
set_option maxRecDepth 100000 in
set_option maxHeartbeats 4000000 in
theorem c_NodeSortS_36 {a : Option Addr} {len cap : Nat} {ns : List ND} (x : ND) (hx : x.name.size ≤ maxLen) (w : World) (hl : ns.length = len) (hlen : len ≤ 60) (hf : fldOk len x) (hk : x.kind = 36) :
    Calls Tryz.prog 57 #[.slice a len cap, .agg x.cells.toArray] w (NSP ns x w) := by
  have hd : decide (fldOk len x) = true := decide_eq_true hf
  have HL : Hid (ns.length = len) := hl
  have HF : Hid (fldOk len x) := hf
  clear hl hf
  have hm : len ≤ maxLen := by unfold maxLen; omega
  obtain ⟨k, pa, pb, pc, n, m, si, sw, nm⟩ := x
  simp only [ND.cells] at *
  subst hk
  have hp : pcN 36 = 0 := by decide
  go_enter Tryz.func57, Tryz.ntmps57
  go_wp2_with fail
  refine (c_l2Fields hm ⟨_, pa, pb, pc, n, m, si, sw, nm⟩ hx _).mono ?_
  rintro e w1 ⟨rfl, hB1⟩
  obtain ⟨hc, hfz⟩ := bcell hB1
  have HB : Hid _ := hB1
  clear hB1
  have hz : w.heap.size + 1 < w1.heap.size := by have := HB.out.size; simp at this; omega
  by_cases hs : SOK si sw
  · have hs' : decide (SOK si sw) = true := decide_eq_true hs
    have HS : Hid (SOK si sw) := hs
    clear hs
    go_wp2_with (first | (go_at_call 85; refine (c_l2Parts _ _).mono ?_; rintro e w' ⟨rfl, rfl⟩))
    refine (c_SortOkS _ _ _).mono ?_
    rintro e w2 ⟨rfl, hB2⟩
    have hB2' := bstep HB.out (Nat.le_refl _) hB2
    obtain ⟨hc2, hfz2⟩ := bcell hB2'
    have HB2 : Hid _ := hB2'
    clear hB2' hc hfz
    have hz2 : w.heap.size + 1 < w2.heap.size := by have := hB2.size; omega
    clear hB2
    go_wp2_with fail
    refine bodyPost_ret (v := .tuple #[.agg #[.int .i64 si, .int .i64 sw], .bool true]) (by simp [results, Tryz.results57, go_sem, hc2]) rfl ?_
    have hok : nOk ns ⟨36, pa, pb, pc, n, m, si, sw, nm⟩ := by
      rw [← HL.out] at HF
      exact nOk_mk (by rw [HL.out]; exact hlen) HF.out (pss_leaf hp) (by simp [kOk, namedB]; exact HS.out)
    exact nsp_yes hok (by simp [kSort, namedB]) (below_two_set HB2.out)
  · have hs' : decide (SOK si sw) = false := decide_eq_false hs
    have HS : Hid (¬ SOK si sw) := hs
    clear hs
    go_wp2_with (first | (go_at_call 85; refine (c_l2Parts _ _).mono ?_; rintro e w' ⟨rfl, rfl⟩))
    refine (c_SortOkS _ _ _).mono ?_
    rintro e w2 ⟨rfl, hB2⟩
    have hB2' := bstep HB.out (Nat.le_refl _) hB2
    obtain ⟨hc2, hfz2⟩ := bcell hB2'
    have HB2 : Hid _ := hB2'
    clear hB2' hc hfz
    have hz2 : w.heap.size + 1 < w2.heap.size := by have := hB2.size; omega
    clear hB2
    go_wp2_with fail
    refine bodyPost_ret (v := .tuple #[.agg #[.int .i64 0, .int .i64 0], .bool false]) (by simp [results, Tryz.results57, go_sem, hc2]) rfl ?_
    exact nsp_no (fun h => HS.out (by have := h.2.2.2.2.2.2; simpa [kOk, namedB] using this)) (below_two_set HB2.out)
set_option maxRecDepth 100000 in
set_option maxHeartbeats 4000000 in
theorem c_NodeSortS_34 {a : Option Addr} {len cap : Nat} {ns : List ND} (x : ND) (hx : x.name.size ≤ maxLen) (w : World) (hl : ns.length = len) (hlen : len ≤ 60) (hf : fldOk len x) (hk : x.kind = 34) :
    Calls Tryz.prog 57 #[.slice a len cap, .agg x.cells.toArray] w (NSP ns x w) := by
  have hd : decide (fldOk len x) = true := decide_eq_true hf
  have HL : Hid (ns.length = len) := hl
  have HF : Hid (fldOk len x) := hf
  clear hl hf
  have hm : len ≤ maxLen := by unfold maxLen; omega
  obtain ⟨k, pa, pb, pc, n, m, si, sw, nm⟩ := x
  simp only [ND.cells] at *
  subst hk
  have hp : pcN 34 = 0 := by decide
  go_enter Tryz.func57, Tryz.ntmps57
  go_wp2_with fail
  refine (c_l2Fields hm ⟨_, pa, pb, pc, n, m, si, sw, nm⟩ hx _).mono ?_
  rintro e w1 ⟨rfl, hB1⟩
  obtain ⟨hc, hfz⟩ := bcell hB1
  have HB : Hid _ := hB1
  clear hB1
  have hz : w.heap.size + 1 < w1.heap.size := by have := HB.out.size; simp at this; omega
  by_cases hs : si = 0 ∧ WOk sw n
  · obtain ⟨rfl, hw⟩ := hs
    have hw' : decide (WOk sw n) = true := decide_eq_true hw
    have HS : Hid (WOk sw n) := hw
    clear hw
    go_wp2_with (first | (go_at_call 85; refine (c_l2Parts _ _).mono ?_; rintro e w' ⟨rfl, rfl⟩))
    refine (c_SortOkS _ _ _).mono ?_
    rintro e w2 ⟨rfl, hB2⟩
    have hB2' := bstep HB.out (Nat.le_refl _) hB2
    obtain ⟨hc2, hfz2⟩ := bcell hB2'
    have HB2 : Hid _ := hB2'
    clear hB2' hc hfz
    have hz2 : w.heap.size + 1 < w2.heap.size := by have := hB2.size; omega
    clear hB2
    go_wp2_with (first | (go_at_call 89; refine (c_WordOkS _ _ _).mono ?_; rintro e w' ⟨rfl, rfl⟩))
    refine bodyPost_ret (v := .tuple #[.agg #[.int .i64 0, .int .i64 sw], .bool true]) (by simp [results, Tryz.results57, go_sem, hc2]) rfl ?_
    have hok : nOk ns ⟨34, pa, pb, pc, n, m, 0, sw, nm⟩ := by
      rw [← HL.out] at HF
      exact nOk_mk (by rw [HL.out]; exact hlen) HF.out (pss_leaf hp) (by simp [kOk, namedB]; exact HS.out)
    exact nsp_yes hok (by simp [kSort, namedB]) (below_two_set HB2.out)
  · have HS : Hid (¬ (si = 0 ∧ WOk sw n)) := hs
    by_cases h0 : si = 0
    · subst h0
      have hw' : decide (WOk sw n) = false := decide_eq_false fun h => hs ⟨rfl, h⟩
      clear hs
      go_wp2_with (first | (go_at_call 85; refine (c_l2Parts _ _).mono ?_; rintro e w' ⟨rfl, rfl⟩))
      refine (c_SortOkS _ _ _).mono ?_
      rintro e w2 ⟨rfl, hB2⟩
      have hB2' := bstep HB.out (Nat.le_refl _) hB2
      obtain ⟨hc2, hfz2⟩ := bcell hB2'
      have HB2 : Hid _ := hB2'
      clear hB2' hc hfz
      have hz2 : w.heap.size + 1 < w2.heap.size := by have := hB2.size; omega
      clear hB2
      go_wp2_with (first | (go_at_call 89; refine (c_WordOkS _ _ _).mono ?_; rintro e w' ⟨rfl, rfl⟩))
      refine bodyPost_ret (v := .tuple #[.agg #[.int .i64 0, .int .i64 0], .bool false]) (by simp [results, Tryz.results57, go_sem, hc2]) rfl ?_
      exact nsp_no (fun h => HS.out (by have := h.2.2.2.2.2.2; simpa [kOk, namedB] using this)) (below_two_set HB2.out)
    · have h0' : (si == 0) = false := by simpa using h0
      clear hs
      go_wp2_with (first | (go_at_call 85; refine (c_l2Parts _ _).mono ?_; rintro e w' ⟨rfl, rfl⟩))
      refine (c_SortOkS _ _ _).mono ?_
      rintro e w2 ⟨rfl, hB2⟩
      have hB2' := bstep HB.out (Nat.le_refl _) hB2
      obtain ⟨hc2, hfz2⟩ := bcell hB2'
      have HB2 : Hid _ := hB2'
      clear hB2' hc hfz
      have hz2 : w.heap.size + 1 < w2.heap.size := by have := hB2.size; omega
      clear hB2
      go_wp2_with (first | (go_at_call 89; refine (c_WordOkS _ _ _).mono ?_; rintro e w' ⟨rfl, rfl⟩))
      refine bodyPost_ret (v := .tuple #[.agg #[.int .i64 0, .int .i64 0], .bool false]) (by simp [results, Tryz.results57, go_sem, hc2]) rfl ?_
      exact nsp_no (fun h => HS.out (by have := h.2.2.2.2.2.2; simpa [kOk, namedB] using this)) (below_two_set HB2.out)
theorem sortInfo : (Tryz.prog.info? 64).map (fun i => (i.zero, i.size, i.bytes)) = some (some (.agg #[.int .i64 0, .int .i64 0]), 2, 16) := by kernel_rfl
/-- The sorts of the first parts, cell by cell. -/
def flat (ns : List ND) (x : ND) (j : Nat) : List Value := (List.range j).flatMap fun t => [.int .i64 (srt ns x t).1, .int .i64 (srt ns x t).2]
theorem flat_succ (ns : List ND) (x : ND) (j : Nat) : flat ns x (j + 1) = flat ns x j ++ [.int .i64 (srt ns x j).1, .int .i64 (srt ns x j).2] := by
  unfold flat; rw [List.range_succ, List.flatMap_append]; simp
theorem flat_length (ns : List ND) (x : ND) (j : Nat) : (flat ns x j).length = 2 * j := by
  induction j with
  | zero => rfl
  | succ j ih => rw [flat_succ, List.length_append, ih]; simp; omega
theorem flat_get {ns : List ND} {x : ND} {j t : Nat} (h : t < j) : (flat ns x j)[2 * t]? = some (.int .i64 (srt ns x t).1) ∧ (flat ns x j)[2 * t + 1]? = some (.int .i64 (srt ns x t).2) := by
  induction j with
  | zero => omega
  | succ j ih =>
    rw [flat_succ]
    by_cases e : t = j
    · subst e
      rw [List.getElem?_append_right (by rw [flat_length]; omega), List.getElem?_append_right (by rw [flat_length]; omega), flat_length]
      simp
    · rw [List.getElem?_append_left (by rw [flat_length]; omega), List.getElem?_append_left (by rw [flat_length]; omega)]
      exact ih (by omega)
theorem part_in {len : Nat} {x : ND} {j : Nat} (h : ptsOk len x) (hj : (j : Int) < pcN x.kind) : 0 ≤ partAt x j ∧ partAt x j < len := by
  have h3 := pcN_cases x.kind
  have : ptOk len x j := by
    obtain ⟨h0, h1, h2⟩ := h
    rcases (by omega : j = 0 ∨ j = 1 ∨ j = 2) with rfl | rfl | rfl <;> assumption
  unfold ptOk at this; rw [if_pos hj] at this; exact this
theorem nd_at {B : Nat} {w : World} {a : Option Addr} {len cap : Nat} {ns : List ND} (h : NodesAt B w a len cap ns) (h0 : 0 < len) :
    ∃ b off, a = some ⟨b, off, none⟩ ∧ b < B ∧ ∀ p : Int, 0 ≤ p → p < len → w.cell? ⟨b, off + p.toNat * 9 + 6, none⟩ = some (.int .i64 (sortAt ns p).1) ∧ w.cell? ⟨b, off + p.toNat * 9 + 7, none⟩ = some (.int .i64 (sortAt ns p).2) := by
  obtain ⟨hl, -, -, -, -, h6⟩ := h
  rcases h6 with h6 | ⟨b, off, rfl, hb, hc⟩
  · omega
  · refine ⟨b, off, rfl, hb, fun p p0 p1 => ?_⟩
    have hp : p.toNat < ns.length := by omega
    have e : ns.getD p.toNat default = ns[p.toNat] := by simp [List.getD_eq_getElem?_getD, List.getElem?_eq_getElem hp]
    unfold sortAt; rw [e]
    exact ⟨hc p.toNat hp 6 (by omega), hc p.toNat hp 7 (by omega)⟩
/-- A slice of the call's own that holds the sorts of the parts. -/
theorem own_sorts {w : World} {base g cap j : Nat} {ns : List ND} {x : ND} (h : w.ownsRow base 64 2 (.slice (some ⟨g, 0, none⟩) j cap) j (flat ns x j)) (hj : 0 < j) : SortsAt w g ((List.range j).map (srt ns x)) := by
  have hlt : g < w.heap.size := by
    rcases h.2 with ⟨h', _⟩ | ⟨g', cap', cur, h', _, hg, _⟩
    · simp at h'
    · simp only [Value.slice.injEq, Option.some.injEq, Addr.mk.injEq, and_true, true_and] at h'
      obtain ⟨rfl, rfl⟩ := h'
      rcases Nat.lt_or_ge g w.heap.size with h | h
      · exact h
      · rw [Array.getElem?_eq_none h] at hg; cases hg
  refine ⟨hlt, fun t ht => ?_⟩
  have ht' : t < j := by simpa using ht
  have := flat_get (ns := ns) (x := x) ht'
  rw [h.cellAt (2 * t) (by omega), h.cellAt (2 * t + 1) (by omega)]
  simpa using this
def InRow (ns : List ND) (x : ND) (N : Nat) (W : World) (s i : Value) (wr : World) : Prop :=
  ∃ j : Nat, (j : Int) ≤ pcN x.kind ∧ i = .int .i64 j ∧ wr.ownsRow N 64 2 s j (flat ns x j) ∧ Below N W wr ∧ ∀ t, t < j → psOk ns x t
theorem own_last {w : World} {base g cap j : Nat} {ns : List ND} {x : ND} {u v : Value} (h : w.ownsRow base 64 2 (.slice (some ⟨g, 0, none⟩) (j + 1) cap) (j + 1) (flat ns x j ++ [u, v])) :
    w.cell? ⟨g, j * 2, none⟩ = some u ∧ w.cell? ⟨g, j * 2 + 1, none⟩ = some v := by
  rw [h.cellAt (j * 2) (by omega), h.cellAt (j * 2 + 1) (by omega), List.getElem?_append_right (by rw [flat_length]; omega), List.getElem?_append_right (by rw [flat_length]; omega), flat_length]
  have e1 : j * 2 - 2 * j = 0 := by omega
  have e2 : j * 2 + 1 - 2 * j = 1 := by omega
  rw [e1, e2]; exact ⟨rfl, rfl⟩
theorem own_below {w w' : World} {base : Nat} {e : TypeId} {size : Nat} {v : Value} {n : Nat} {xs : List Value} (h : w.ownsRow base e size v n xs) (hb : Below w.heap.size w w') : w'.ownsRow base e size v n xs :=
  h.kept (row := none) ⟨hb.os, hb.tape, hb.output, hb.size, fun k hk _ => hb.block k hk⟩ (by cases v.ownBlock <;> simp)
theorem below_own {N : Nat} {W w w' : World} {o : Obj} {e : TypeId} {v : Value} {n : Nat} {xs : List Value} (h : Below N W w) (hN : N ≤ w.heap.size) (hown : w.ownsRow N e 2 v n xs) (hg : (w.alloc o).grownBy w' v.ownBlock) : Below N W w' :=
  (h.alloc hN o).grown hg (by show N ≤ (w.heap.push o).size; simp; omega) (fun k hk => (hown.lt k hk).1)
theorem c_resultAll {ns : List ND} (x : ND) (j : Nat) (hj : (j : Int) = pcN x.kind) (h1 : 1 ≤ pcN x.kind) (hs : pssOk ns x) (g cap : Nat) (w : World) (h : SortsAt w g ((List.range j).map (srt ns x))) :
    Calls Tryz.prog 90 #[.agg x.cells.toArray, .slice (some ⟨g, 0, none⟩) j cap] w (ResP x (srt ns x 0) (srt ns x 1) (srt ns x 2) w) := by
  obtain ⟨s0, s1, s2⟩ := hs
  rcases pcN_cases x.kind with e | e | e | e | e
  · omega
  · omega
  · obtain rfl : j = 1 := by omega
    have z1 : srt ns x 1 = (0, 0) := by unfold srt; rw [if_neg (by omega)]
    have z2 : srt ns x 2 = (0, 0) := by unfold srt; rw [if_neg (by omega)]
    rw [z1, z2]
    exact c_result1 x e _ (s0 (by omega)).1 g cap w h
  · obtain rfl : j = 2 := by omega
    have z2 : srt ns x 2 = (0, 0) := by unfold srt; rw [if_neg (by omega)]
    rw [z2]
    exact c_result2 x e _ _ (s0 (by omega)).1 (s1 (by omega)).1 g cap w h
  · obtain rfl : j = 3 := by omega
    exact c_result3 x e _ _ _ g cap w h
theorem below_two_setA {w w1 : World} {A B C : Obj} (h : Below ((w.alloc A).alloc B).heap.size ((w.alloc A).alloc B) w1) {o o' : Nat} {u u' : Value} : Below w.heap.size w (((w1.setCell ⟨w.heap.size + 1, o, none⟩ u).setCell ⟨w.heap.size + 1, o', none⟩ u').alloc C) :=
  (below_two_set h).alloc (below_two_set (o := o) (o' := o') (u := u) (u' := u') h).size _
set_option maxRecDepth 100000 in
set_option maxHeartbeats 8000000 in
theorem c_NodeSortS_parts {B : Nat} {a : Option Addr} {len cap : Nat} {ns : List ND} (x : ND) (hx : x.name.size ≤ maxLen) (w : World) (hBw : B ≤ w.heap.size) (h : NodesAt B w a len cap ns) (hlen : len ≤ 60) (hf : fldOk len x) (hp : 1 ≤ pcN x.kind) :
    Calls Tryz.prog 57 #[.slice a len cap, .agg x.cells.toArray] w (NSP ns x w) := by
  have hd : decide (fldOk len x) = true := decide_eq_true hf
  have HL : Hid (ns.length = len) := h.1
  have HF : Hid (fldOk len x) := hf
  have h0 : 0 < len := by have := part_in (j := 0) hf.2.1 (by omega); omega
  obtain ⟨b, off, rfl, hb, hn⟩ := nd_at h h0
  have HN : Hid _ := hn
  have hp3 : pcN x.kind ≤ 3 := by have := pcN_cases x.kind; omega
  have HX : Hid (∃ y : ND, y = x) := ⟨x, rfl⟩
  clear h hf hn
  have hm : len ≤ maxLen := by unfold maxLen; omega
  obtain ⟨i0, hi0, hz0, hz1, hz2⟩ := info_parts sortInfo
  have HI0 : Hid _ := hi0
  have HZ0 : Hid _ := hz0
  have HZ1 : Hid _ := hz1
  have HZ2 : Hid _ := hz2
  clear hi0 hz0 hz1 hz2
  obtain ⟨k, pa, pb, pc, n, m, si, sw, nm⟩ := x
  simp only [ND.cells] at *
  have hp0 : (pcN k == 0) = false := by simp; omega
  go_enter Tryz.func57, Tryz.ntmps57
  go_wp2_with fail
  refine (c_l2Fields hm ⟨_, pa, pb, pc, n, m, si, sw, nm⟩ hx _).mono ?_
  rintro e w1 ⟨rfl, hB1⟩
  obtain ⟨hc, hfz⟩ := bcell hB1
  have HB : Hid _ := hB1
  have hBw1 : Hid (Below w.heap.size w w1) := below_two_of hB1
  clear hB1
  have hz : w.heap.size + 1 < w1.heap.size := by have := HB.out.size; simp at this; omega
  go_wp2_with (first | (go_at_call 85; refine (c_l2Parts _ _).mono ?_; rintro e w' ⟨rfl, rfl⟩))
  go_loopw [8, 10] (fun s i wr => InRow ns ⟨k, pa, pb, pc, n, m, si, sw, nm⟩ (w1.heap.size + 1) (w1.alloc (.cells #[.int .i64 pa, .int .i64 pb, .int .i64 pc] 3)) s i wr) (fun _ i _ => (pcN k - intOf i).toNat)
  case atStart => exact ⟨0, by simp; omega, rfl, World.ownsRow_nil _ _ _ _, Below.refl _ _, fun t ht => by omega⟩
  case round =>
    obtain ⟨j, hj, rfl, hown, hBr, hps⟩ := hrel
    clear hc hfz
    have HPS : Hid _ := hps
    clear hps
    have Hown := Go.Lib.hid hown
    clear hown
    have HBr : Hid _ := hBr
    clear hBr
    by_cases hjk : (j : Int) < pcN k
    · have hpin := part_in (x := ⟨k, pa, pb, pc, n, m, si, sw, nm⟩) HF.out.2.1 hjk
      obtain ⟨p, hpp⟩ : ∃ p, p = partAt ⟨k, pa, pb, pc, n, m, si, sw, nm⟩ j := ⟨_, rfl⟩
      rw [← hpp] at hpin
      obtain ⟨p0, p1⟩ := hpin
      have hj3 : (j : Int) < 3 := by omega
      have cp : wr.cell? ⟨w1.heap.size, j, none⟩ = some (.int .i64 p) := by
        rw [HBr.out.cell (p := ⟨w1.heap.size, j, none⟩) (by simp), hpp]
        rcases (by omega : j = 0 ∨ j = 1 ∨ j = 2) with rfl | rfl | rfl <;> simp [partAt]
      have hbs : w1.heap.size + 1 ≤ wr.heap.size := by have := HBr.out.size; simp at this; omega
      have HBall : Hid (Below w.heap.size w wr) := hBw1.out.trans (((Below.refl w.heap.size w1).alloc hBw1.out.size _).trans (HBr.out.mono (by have := hBw1.out.size; omega)))
      have hs : srt ns ⟨k, pa, pb, pc, n, m, si, sw, nm⟩ j = sortAt ns p := by unfold srt; rw [if_pos hjk, hpp]
      obtain ⟨n6, n7⟩ := HN.out p p0 p1
      have c6 := (HBall.out.cell (p := ⟨b, off + p.toNat * 9 + 6, none⟩) (by show b < _; omega)).trans n6
      have c7 := (HBall.out.cell (p := ⟨b, off + p.toNat * 9 + 7, none⟩) (by show b < _; omega)).trans n7
      rw [← hs] at c6 c7
      obtain ⟨q1, q2, hq⟩ : ∃ q1 q2, srt ns ⟨k, pa, pb, pc, n, m, si, sw, nm⟩ j = (q1, q2) := ⟨_, _, rfl⟩
      rw [hq] at c6 c7
      have HQ : Hid (srt ns ⟨k, pa, pb, pc, n, m, si, sw, nm⟩ j = (q1, q2)) := hq
      clear hq hs hpp n6 n7
      simp only at c6 c7
      by_cases hsk : SOK q1 q2
      · have hsk' : decide (SOK q1 q2) = true := decide_eq_true hsk
        have HSK : Hid (SOK q1 q2) := hsk
        clear hsk
        go_wp2_with (first | (at_builtin; (refine wpList_append_lies _ rfl _ _ 108 rfl (w1.heap.size + 1) 64 i0 _ 2 16 Tryz.underlying108 HI0.out HZ0.out HZ1.out HZ2.out rfl (by decide) _ j _ rfl (Hown.out.alloc _) ⟨wr.heap.size, 0, none⟩ 1 1 [.int .i64 q1, .int .i64 q2] rfl rfl (World.news_of_block (cs := #[.int .i64 q1, .int .i64 q2]) (t := 64) (fr := (0, 0)) (heap_alloc_new wr _)) (by simp [Value.oneCell']) (by decide) (by unfold maxLen; omega) (by omega) (by simp; omega) _ rfl ?_); intro g cap' w2 hown2 hgrow hat hlt; have hl2 := own_last hown2; have HL2 := hl2.1; have HL3 := hl2.2; have Hown2 := Go.Lib.hid hown2; have HG := Go.Lib.hid hgrow; clear hl2 hown2 hgrow))
        refine (c_SortOkS _ _ _).mono ?_
        rintro e w3 ⟨rfl, hB3⟩
        have HB2 := Go.Lib.hid (below_own HBr.out hbs Hown.out HG.out)
        have hN2 : w1.heap.size + 1 ≤ w2.heap.size := Nat.le_trans hbs (Nat.le_trans (by simp) HG.out.size)
        have HB3 := Go.Lib.hid (HB2.out.trans (hB3.mono hN2))
        have Hown3 := Go.Lib.hid (own_below Hown2.out hB3)
        clear hB3 HL2 HL3
        go_wp2
        go_roundw
        case rel => exact ⟨j + 1, by show ((j + 1 : Nat) : Int) ≤ pcN k; omega, by go_num, by rw [flat_succ, HQ.out]; exact Hown3.out, HB3.out, fun t ht => by
          by_cases e : t = j
          · subst e; intro _; rw [HQ.out]; exact HSK.out
          · exact HPS.out t (by omega)⟩
        case measure => simp [intOf]; omega
      · have hsk' : decide (SOK q1 q2) = false := decide_eq_false hsk
        have HSK : Hid (¬ SOK q1 q2) := hsk
        clear hsk
        go_wp2_with (first | (at_builtin; (refine wpList_append_lies _ rfl _ _ 108 rfl (w1.heap.size + 1) 64 i0 _ 2 16 Tryz.underlying108 HI0.out HZ0.out HZ1.out HZ2.out rfl (by decide) _ j _ rfl (Hown.out.alloc _) ⟨wr.heap.size, 0, none⟩ 1 1 [.int .i64 q1, .int .i64 q2] rfl rfl (World.news_of_block (cs := #[.int .i64 q1, .int .i64 q2]) (t := 64) (fr := (0, 0)) (heap_alloc_new wr _)) (by simp [Value.oneCell']) (by decide) (by unfold maxLen; omega) (by omega) (by simp; omega) _ rfl ?_); intro g cap' w2 hown2 hgrow hat hlt; have hl2 := own_last hown2; have HL2 := hl2.1; have HL3 := hl2.2; have Hown2 := Go.Lib.hid hown2; have HG := Go.Lib.hid hgrow; clear hl2 hown2 hgrow))
        refine (c_SortOkS _ _ _).mono ?_
        rintro e w3 ⟨rfl, hB3⟩
        have HB2 := Go.Lib.hid (below_own HBr.out hbs Hown.out HG.out)
        have hN2 : w1.heap.size + 1 ≤ w2.heap.size := Nat.le_trans hbs (Nat.le_trans (by simp) HG.out.size)
        have HB3 := Go.Lib.hid (HB2.out.trans (hB3.mono hN2))
        have Hown3 := Go.Lib.hid (own_below Hown2.out hB3)
        have HB3w := Go.Lib.hid (show Below ((w.alloc _).alloc _).heap.size ((w.alloc _).alloc _) w3 from HB.out.trans ((((Below.refl _ w1).alloc HB.out.size _)).trans (HB3.out.mono (Nat.le_trans HB.out.size (Nat.le_succ _)))))
        obtain ⟨hc3, hfz3⟩ := bcell HB3w.out
        have hz3 : w.heap.size + 1 < w3.heap.size := by have := HB3w.out.size; simp at this; omega
        clear hB3 HL2 HL3
        go_wp2
        refine bodyPost_ret (v := .tuple #[.agg #[.int .i64 0, .int .i64 0], .bool false]) (by simp [results, Tryz.results57, go_sem, hc3]) rfl ?_
        refine nsp_no (fun h => HSK.out ?_) (below_two_set HB3w.out)
        have hps := h.2.2.2.1
        have : psOk ns ⟨k, pa, pb, pc, n, m, si, sw, nm⟩ j := by
          obtain ⟨h0, h1, h2⟩ := hps
          rcases (by omega : j = 0 ∨ j = 1 ∨ j = 2) with rfl | rfl | rfl <;> assumption
        have := this hjk
        rw [HQ.out] at this
        exact this
    · have hjq : (j : Int) = pcN k := by have : (j : Int) ≤ pcN k := hj; omega
      have hj1 : 0 < j := by omega
      obtain ⟨g, cap', rfl, hgb, hglt⟩ := Hown.out.form hj1
      have HSA := Go.Lib.hid (own_sorts Hown.out hj1)
      have HPSS := Go.Lib.hid (show pssOk ns ⟨k, pa, pb, pc, n, m, si, sw, nm⟩ from ⟨fun h => HPS.out 0 (by omega) h, fun h => HPS.out 1 (by have : ((1 : Nat) : Int) < pcN k := h; omega) h, fun h => HPS.out 2 (by have : ((2 : Nat) : Int) < pcN k := h; omega) h⟩)
      have HB0 := Go.Lib.hid (show Below ((w.alloc _).alloc _).heap.size ((w.alloc _).alloc _) wr from HB.out.trans ((((Below.refl _ w1).alloc HB.out.size _)).trans (HBr.out.mono (Nat.le_trans HB.out.size (Nat.le_succ _)))))
      obtain ⟨hc0, hfz0⟩ := bcell HB0.out
      have Hjq := Go.Lib.hid hjq
      by_cases hk : kOk ⟨k, pa, pb, pc, n, m, si, sw, nm⟩ (srt ns ⟨k, pa, pb, pc, n, m, si, sw, nm⟩ 0) (srt ns ⟨k, pa, pb, pc, n, m, si, sw, nm⟩ 1) (srt ns ⟨k, pa, pb, pc, n, m, si, sw, nm⟩ 2)
      · have HK : Hid (kOk ⟨k, pa, pb, pc, n, m, si, sw, nm⟩ (srt ns ⟨k, pa, pb, pc, n, m, si, sw, nm⟩ 0) (srt ns ⟨k, pa, pb, pc, n, m, si, sw, nm⟩ 1) (srt ns ⟨k, pa, pb, pc, n, m, si, sw, nm⟩ 2)) := hk
        have hk' : decide (kOk ⟨k, pa, pb, pc, n, m, si, sw, nm⟩ (srt ns ⟨k, pa, pb, pc, n, m, si, sw, nm⟩ 0) (srt ns ⟨k, pa, pb, pc, n, m, si, sw, nm⟩ 1) (srt ns ⟨k, pa, pb, pc, n, m, si, sw, nm⟩ 2)) = true := decide_eq_true hk
        clear hk
        go_wp2_with fail
        refine (c_resultAll ⟨k, pa, pb, pc, n, m, si, sw, nm⟩ j hjq hp HPSS.out g cap' wr HSA.out).mono ?_
        rintro e w2 ⟨i, q, rfl, hq, hB2⟩
        have HQ := Go.Lib.hid hq
        have HB2 := Go.Lib.hid (bstep HB0.out (Nat.le_refl _) hB2)
        clear hq hB2 hc0 hfz0
        obtain ⟨hc2, hfz2⟩ := bcell HB2.out
        have hz2 : w.heap.size + 1 < w2.heap.size := by have := HB2.out.size; simp at this; omega
        go_wp2
        refine bodyPost_ret (v := .tuple #[.agg #[.int .i64 i, .int .i64 q], .bool true]) (by simp [results, Tryz.results57, go_sem, hc2, hz2]) rfl ?_
        have hok : nOk ns ⟨k, pa, pb, pc, n, m, si, sw, nm⟩ := by
          rw [← HL.out] at HF
          exact nOk_mk (by rw [HL.out]; exact hlen) HF.out HPSS.out HK.out
        exact nsp_yes hok (HQ.out HK.out) (below_two_setA HB2.out)
      · have HK : Hid (¬ kOk ⟨k, pa, pb, pc, n, m, si, sw, nm⟩ (srt ns ⟨k, pa, pb, pc, n, m, si, sw, nm⟩ 0) (srt ns ⟨k, pa, pb, pc, n, m, si, sw, nm⟩ 1) (srt ns ⟨k, pa, pb, pc, n, m, si, sw, nm⟩ 2)) := hk
        have hk' : decide (kOk ⟨k, pa, pb, pc, n, m, si, sw, nm⟩ (srt ns ⟨k, pa, pb, pc, n, m, si, sw, nm⟩ 0) (srt ns ⟨k, pa, pb, pc, n, m, si, sw, nm⟩ 1) (srt ns ⟨k, pa, pb, pc, n, m, si, sw, nm⟩ 2)) = false := decide_eq_false hk
        clear hk
        go_wp2_with fail
        refine (c_resultAll ⟨k, pa, pb, pc, n, m, si, sw, nm⟩ j hjq hp HPSS.out g cap' wr HSA.out).mono ?_
        rintro e w2 ⟨i, q, rfl, hq, hB2⟩
        have HQ := Go.Lib.hid hq
        have HB2 := Go.Lib.hid (bstep HB0.out (Nat.le_refl _) hB2)
        clear hq hB2 hc0 hfz0
        obtain ⟨hc2, hfz2⟩ := bcell HB2.out
        have hz2 : w.heap.size + 1 < w2.heap.size := by have := HB2.out.size; simp at this; omega
        go_wp2
        refine bodyPost_ret (v := .tuple #[.agg #[.int .i64 0, .int .i64 0], .bool false]) (by simp [results, Tryz.results57, go_sem, hc2, hz2]) rfl ?_
        exact nsp_no (fun h => HK.out h.2.2.2.2.2.2) (below_two_setA HB2.out)

theorem c_NodeSortS {B : Nat} {a : Option Addr} {len cap : Nat} {ns : List ND} (x : ND) (hx : x.name.size ≤ maxLen) (w : World) (hBw : B ≤ w.heap.size) (h : NodesAt B w a len cap ns) :
    Calls Tryz.prog 57 #[.slice a len cap, .agg x.cells.toArray] w (NSP ns x w) := by
  have hm : len ≤ maxLen := Nat.le_trans h.2.1 h.2.2.1
  by_cases h60 : len ≤ 60
  · by_cases hf : fldOk len x
    · by_cases hp : 1 ≤ pcN x.kind
      · exact c_NodeSortS_parts x hx w hBw h h60 hf hp
      · have hp0 : pcN x.kind = 0 := by have := hf.1; omega
        have hk : x.kind = 34 ∨ x.kind = 35 ∨ x.kind = 36 := by unfold pcN at hp0; (repeat' split at hp0) <;> omega
        rcases hk with hk | hk | hk
        · exact c_NodeSortS_34 x hx w h.1 h60 hf hk
        · exact c_NodeSortS_35 x hx w h.1 h60 hf hk
        · exact c_NodeSortS_36 x hx w h.1 h60 hf hk
    · exact c_NodeSortS_fields x hx w h.1 h60 hf
  · exact c_NodeSortS_long x w h.1 hm (by omega)
end Go.Proofs.YtbkcecilbpngcaaGreat
