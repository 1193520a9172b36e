/-
  Parts: NSortS, NSortI, WidthI, KSortP, PartsI, PaD, shortened.
-/
import Derived.Test.YtlcgimadbpagfaaGreatZFieldsS
import Derived.Test.YtlcgimadbpagfaaGreatZResS
import Derived.Test.YtlcgimadbpagfaaGreatZResT
import Derived.Maps.AppendAt
import Derived.Deep.AppendLies
import Derived.Deep.CutBlock
namespace Go.Proofs.YtlcgimadbpagfaaGreat
open Go.Lib
open Go.ChangeShapes Go.WideShapes Go.ChangeAt Go.RowKit
set_option linter.unusedVariables false
theorem c_result1 (x : ND) (hp : pcN x.kind = 1) (a : Int × Int) (ha : 0 ≤ a.1) (g cap : Nat) (w : World) (h : SortsAt w g [a]) :
  Calls Tryz.prog 191 #[.agg x.cells.toArray, .slice (some ⟨g, 0, none⟩) 1 cap] w (ResP x a (0, 0) (0, 0) w) := by
 have hk : (1 ≤ x.kind ∧ x.kind ≤ 5) ∨ x.kind = 30 ∨ x.kind = 31 ∨ x.kind = 32 := by unfold pcN at hp; (repeat' split at hp) <;> omega
 rcases hk with ⟨h1, h2⟩ | h1 | h1 | h1
 ·exact c_resOne x h1 h2 a ha g cap w h
 ·exact c_res30 x h1 a ha g cap w h
 ·exact c_res31 x h1 a ha g cap w h
 ·exact c_res32 x h1 a ha g cap w h
theorem c_result2 (x : ND) (hp : pcN x.kind = 2) (a b : Int × Int) (ha : 0 ≤ a.1) (hb : 0 ≤ b.1) (g cap : Nat) (w : World) (h : SortsAt w g [a, b]) :
  Calls Tryz.prog 191 #[.agg x.cells.toArray, .slice (some ⟨g, 0, none⟩) 2 cap] w (ResP x a b (0, 0) w) := by
 have hk : x.kind = 29 ∨ x.kind = 21 ∨ x.kind = 37 ∨ (6 ≤ x.kind ∧ x.kind ≤ 28 ∧ x.kind ≠ 21) := by unfold pcN at hp; (repeat' split at hp) <;> omega
 rcases hk with h1 | h1 | h1 | ⟨h1, h2, h3⟩
 ·exact c_res29 x h1 a b ha hb g cap w h
 ·exact c_res21 x h1 a b g cap w h
 ·exact c_res37 x h1 a b g cap w h
 ·exact c_resTwo x h1 h2 h3 a b ha hb g cap w h
theorem c_result3 (x : ND) (hp : pcN x.kind = 3) (a b c : Int × Int) (g cap : Nat) (w : World) (h : SortsAt w g [a, b, c]) :
  Calls Tryz.prog 191 #[.agg x.cells.toArray, .slice (some ⟨g, 0, none⟩) 3 cap] w (ResP x a b c w) := by
 have hk : x.kind = 33 ∨ x.kind = 38 := by unfold pcN at hp; (repeat' split at hp) <;> omega
 rcases hk with h1 | h1
 ·exact c_res33 x h1 a b c g cap w h
 ·exact c_res38 x h1 a b c g cap w h
def NSP (ns : List ND) (x : ND) (w : World) (e : Ending) (w' : World) : Prop :=
 e = .returned (.tuple #[.agg #[.int .i64 (nSort ns x).1, .int .i64 (nSort ns x).2], .bool (decide (nOk ns x))]) ∧ Below w.heap.size w w'
theorem nsp_no {ns : List ND} {x : ND} {w w' : World} (h : ¬ nOk ns x) (hb : Below w.heap.size w w') : NSP ns x w (.returned (.tuple #[.agg #[.int .i64 0, .int .i64 0], .bool false])) w' :=
 ⟨by unfold nSort; rw [if_neg h, decide_eq_false h], hb⟩
theorem nsp_yes {ns : List ND} {x : ND} {w w' : World} {i n : Int} (h : nOk ns x) (he : (i, n) = kSort x (srt ns x 0) (srt ns x 1) (srt ns x 2)) (hb : Below w.heap.size w w') : NSP ns x w (.returned (.tuple #[.agg #[.int .i64 i, .int .i64 n], .bool true])) w' :=
 ⟨by unfold nSort; rw [if_pos h, decide_eq_true h, ← he], hb⟩
theorem nOk_fld {ns : List ND} {x : ND} (h : nOk ns x) : fldOk ns.length x := ⟨h.2.1, h.2.2.1, h.2.2.2.2.1, h.2.2.2.2.2.1⟩
theorem nOk_mk {ns : List ND} {x : ND} (hl : ns.length ≤ 60) (hf : fldOk ns.length x) (hs : pssOk ns x) (hk : kOk x (srt ns x 0) (srt ns x 1) (srt ns x 2)) : nOk ns x :=
 ⟨hl, hf.1, hf.2.1, hs, hf.2.2.1, hf.2.2.2, hk⟩
theorem pss_leaf {ns : List ND} {x : ND} (hp : pcN x.kind = 0) : pssOk ns x := ⟨fun h => by omega, fun h => by omega, fun h => by omega⟩
theorem below_two_of {w w1 : World} {A B : Obj} (h : Below ((w.alloc A).alloc B).heap.size ((w.alloc A).alloc B) w1) : Below w.heap.size w w1 := by
 have h0 : Below w.heap.size w ((w.alloc A).alloc B) := by go_grown
 exact h0.trans (h.mono h0.size)
theorem below_two_set {w w1 : World} {A B : Obj} (h : Below ((w.alloc A).alloc B).heap.size ((w.alloc A).alloc B) w1) {o o' : Nat} {u u' : Value} : Below w.heap.size w ((w1.setCell ⟨w.heap.size + 1, o, none⟩ u).setCell ⟨w.heap.size + 1, o', none⟩ u') :=
 ((below_two_of h).setCell (by simp) _).setCell (by simp) _
set_option maxRecDepth 100000 in
set_option maxHeartbeats 4000000 in
theorem c_NodeSortS_long {a : Option Addr} {len cap : Nat} {ns : List ND} (x : ND) (w : World) (hl : ns.length = len) (hlen : len ≤ maxLen) (h60 : 60 < len) :
  Calls Tryz.prog 156 #[.slice a len cap, .agg x.cells.toArray] w (NSP ns x w) := by
 have hn : Hid (¬ nOk ns x) := fun h => by have := h.1; omega
 unfold maxLen at hlen
 clear hl
 obtain ⟨k, pa, pb, pc, n, m, si, sw, nm⟩ := x
 simp only [ND.cells] at *
 go_enter Tryz.func156, Tryz.ntmps156
 go_wp2_with fail
 refine bodyPost_ret (v := .tuple #[.agg #[.int .i64 0, .int .i64 0], .bool false]) (by simp [results, Tryz.results156, go_sem]) rfl ?_
 exact nsp_no hn.out (by go_grown)
set_option maxRecDepth 100000 in
set_option maxHeartbeats 4000000 in
theorem c_NodeSortS_fields {a : Option Addr} {len cap : Nat} {ns : List ND} (x : ND) (hx : x.name.size ≤ maxLen) (w : World) (hl : ns.length = len) (hlen : len ≤ 60) (hf : ¬ fldOk len x) :
  Calls Tryz.prog 156 #[.slice a len cap, .agg x.cells.toArray] w (NSP ns x w) := by
 have hn : Hid (¬ nOk ns x) := fun h => hf (hl ▸ nOk_fld h)
 have hd : decide (fldOk len x) = false := decide_eq_false hf
 clear hl hf
 have hm : len ≤ maxLen := by unfold maxLen; omega
 obtain ⟨k, pa, pb, pc, n, m, si, sw, nm⟩ := x
 simp only [ND.cells] at *
 go_enter Tryz.func156, Tryz.ntmps156
 go_wp2_with fail
 refine (c_l2Fields hm ⟨k, pa, pb, pc, n, m, si, sw, nm⟩ hx _).mono ?_
 rintro e w1 ⟨rfl, hB1⟩
 obtain ⟨hc, hfz⟩ := bcell hB1
 have HB : Hid _ := hB1
 clear hB1
 have hz : w.heap.size + 1 < w1.heap.size := by have := HB.out.size; simp at this; omega
 go_wp2_with fail
 refine bodyPost_ret (v := .tuple #[.agg #[.int .i64 0, .int .i64 0], .bool false]) (by simp [results, Tryz.results156, go_sem, hc]) rfl ?_
 exact nsp_no hn.out (below_two_set HB.out)
set_option maxRecDepth 100000 in
set_option maxHeartbeats 4000000 in
theorem c_NodeSortS_35 {a : Option Addr} {len cap : Nat} {ns : List ND} (x : ND) (hx : x.name.size ≤ maxLen) (w : World) (hl : ns.length = len) (hlen : len ≤ 60) (hf : fldOk len x) (hk : x.kind = 35) :
  Calls Tryz.prog 156 #[.slice a len cap, .agg x.cells.toArray] w (NSP ns x w) := by
 have hd : decide (fldOk len x) = true := decide_eq_true hf
 have HL : Hid (ns.length = len) := hl
 have HF : Hid (fldOk len x) := hf
 clear hl hf
 have hm : len ≤ maxLen := by unfold maxLen; omega
 obtain ⟨k, pa, pb, pc, n, m, si, sw, nm⟩ := x
 simp only [ND.cells] at *
 subst hk
 have hp : pcN 35 = 0 := by decide
 go_enter Tryz.func156, Tryz.ntmps156
 go_wp2_with fail
 refine (c_l2Fields hm ⟨_, pa, pb, pc, n, m, si, sw, nm⟩ hx _).mono ?_
 rintro e w1 ⟨rfl, hB1⟩
 obtain ⟨hc, hfz⟩ := bcell hB1
 have HB : Hid _ := hB1
 clear hB1
 have hz : w.heap.size + 1 < w1.heap.size := by have := HB.out.size; simp at this; omega
 by_cases hs : SOK si sw
 ·have hs' : decide (SOK si sw) = true := decide_eq_true hs
  have HS : Hid (SOK si sw) := hs
  clear hs
  go_wp2_with (first | (go_at_call 126; refine (c_l2Parts _ _).mono ?_; rintro e w' ⟨rfl, rfl⟩))
  refine (c_SortOkS _ _ _).mono ?_
  rintro e w2 ⟨rfl, hB2⟩
  have hB2' := bstep HB.out (Nat.le_refl _) hB2
  obtain ⟨hc2, hfz2⟩ := bcell hB2'
  have HB2 : Hid _ := hB2'
  clear hB2' hc hfz
  have hz2 : w.heap.size + 1 < w2.heap.size := by have := hB2.size; omega
  clear hB2
  go_wp2_with fail
  refine bodyPost_ret (v := .tuple #[.agg #[.int .i64 si, .int .i64 sw], .bool true]) (by simp [results, Tryz.results156, go_sem, hc2]) rfl ?_
  have hok : nOk ns ⟨35, pa, pb, pc, n, m, si, sw, nm⟩ := by
   rw [← HL.out] at HF
   exact nOk_mk (by rw [HL.out]; exact hlen) HF.out (pss_leaf hp) (by simp [kOk, namedB]; exact HS.out)
  exact nsp_yes hok (by simp [kSort, namedB]) (below_two_set HB2.out)
 ·have hs' : decide (SOK si sw) = false := decide_eq_false hs
  have HS : Hid (¬ SOK si sw) := hs
  clear hs
  go_wp2_with (first | (go_at_call 126; refine (c_l2Parts _ _).mono ?_; rintro e w' ⟨rfl, rfl⟩))
  refine (c_SortOkS _ _ _).mono ?_
  rintro e w2 ⟨rfl, hB2⟩
  have hB2' := bstep HB.out (Nat.le_refl _) hB2
  obtain ⟨hc2, hfz2⟩ := bcell hB2'
  have HB2 : Hid _ := hB2'
  clear hB2' hc hfz
  have hz2 : w.heap.size + 1 < w2.heap.size := by have := hB2.size; omega
  clear hB2
  go_wp2_with fail
  refine bodyPost_ret (v := .tuple #[.agg #[.int .i64 0, .int .i64 0], .bool false]) (by simp [results, Tryz.results156, go_sem, hc2]) rfl ?_
  exact nsp_no (fun h => HS.out (by have := h.2.2.2.2.2.2; simpa [kOk, namedB] using this)) (below_two_set HB2.out)
set_option maxRecDepth 100000 in
set_option maxHeartbeats 4000000 in
theorem c_NodeSortS_36 {a : Option Addr} {len cap : Nat} {ns : List ND} (x : ND) (hx : x.name.size ≤ maxLen) (w : World) (hl : ns.length = len) (hlen : len ≤ 60) (hf : fldOk len x) (hk : x.kind = 36) :
  Calls Tryz.prog 156 #[.slice a len cap, .agg x.cells.toArray] w (NSP ns x w) := by
 have hd : decide (fldOk len x) = true := decide_eq_true hf
 have HL : Hid (ns.length = len) := hl
 have HF : Hid (fldOk len x) := hf
 clear hl hf
 have hm : len ≤ maxLen := by unfold maxLen; omega
 obtain ⟨k, pa, pb, pc, n, m, si, sw, nm⟩ := x
 simp only [ND.cells] at *
 subst hk
 have hp : pcN 36 = 0 := by decide
 go_enter Tryz.func156, Tryz.ntmps156
 go_wp2_with fail
 refine (c_l2Fields hm ⟨_, pa, pb, pc, n, m, si, sw, nm⟩ hx _).mono ?_
 rintro e w1 ⟨rfl, hB1⟩
 obtain ⟨hc, hfz⟩ := bcell hB1
 have HB : Hid _ := hB1
 clear hB1
 have hz : w.heap.size + 1 < w1.heap.size := by have := HB.out.size; simp at this; omega
 by_cases hs : SOK si sw
 ·have hs' : decide (SOK si sw) = true := decide_eq_true hs
  have HS : Hid (SOK si sw) := hs
  clear hs
  go_wp2_with (first | (go_at_call 126; refine (c_l2Parts _ _).mono ?_; rintro e w' ⟨rfl, rfl⟩))
  refine (c_SortOkS _ _ _).mono ?_
  rintro e w2 ⟨rfl, hB2⟩
  have hB2' := bstep HB.out (Nat.le_refl _) hB2
  obtain ⟨hc2, hfz2⟩ := bcell hB2'
  have HB2 : Hid _ := hB2'
  clear hB2' hc hfz
  have hz2 : w.heap.size + 1 < w2.heap.size := by have := hB2.size; omega
  clear hB2
  go_wp2_with fail
  refine bodyPost_ret (v := .tuple #[.agg #[.int .i64 si, .int .i64 sw], .bool true]) (by simp [results, Tryz.results156, go_sem, hc2]) rfl ?_
  have hok : nOk ns ⟨36, pa, pb, pc, n, m, si, sw, nm⟩ := by
   rw [← HL.out] at HF
   exact nOk_mk (by rw [HL.out]; exact hlen) HF.out (pss_leaf hp) (by simp [kOk, namedB]; exact HS.out)
  exact nsp_yes hok (by simp [kSort, namedB]) (below_two_set HB2.out)
 ·have hs' : decide (SOK si sw) = false := decide_eq_false hs
  have HS : Hid (¬ SOK si sw) := hs
  clear hs
  go_wp2_with (first | (go_at_call 126; refine (c_l2Parts _ _).mono ?_; rintro e w' ⟨rfl, rfl⟩))
  refine (c_SortOkS _ _ _).mono ?_
  rintro e w2 ⟨rfl, hB2⟩
  have hB2' := bstep HB.out (Nat.le_refl _) hB2
  obtain ⟨hc2, hfz2⟩ := bcell hB2'
  have HB2 : Hid _ := hB2'
  clear hB2' hc hfz
  have hz2 : w.heap.size + 1 < w2.heap.size := by have := hB2.size; omega
  clear hB2
  go_wp2_with fail
  refine bodyPost_ret (v := .tuple #[.agg #[.int .i64 0, .int .i64 0], .bool false]) (by simp [results, Tryz.results156, go_sem, hc2]) rfl ?_
  exact nsp_no (fun h => HS.out (by have := h.2.2.2.2.2.2; simpa [kOk, namedB] using this)) (below_two_set HB2.out)
set_option maxRecDepth 100000 in
set_option maxHeartbeats 4000000 in
theorem c_NodeSortS_34 {a : Option Addr} {len cap : Nat} {ns : List ND} (x : ND) (hx : x.name.size ≤ maxLen) (w : World) (hl : ns.length = len) (hlen : len ≤ 60) (hf : fldOk len x) (hk : x.kind = 34) :
  Calls Tryz.prog 156 #[.slice a len cap, .agg x.cells.toArray] w (NSP ns x w) := by
 have hd : decide (fldOk len x) = true := decide_eq_true hf
 have HL : Hid (ns.length = len) := hl
 have HF : Hid (fldOk len x) := hf
 clear hl hf
 have hm : len ≤ maxLen := by unfold maxLen; omega
 obtain ⟨k, pa, pb, pc, n, m, si, sw, nm⟩ := x
 simp only [ND.cells] at *
 subst hk
 have hp : pcN 34 = 0 := by decide
 go_enter Tryz.func156, Tryz.ntmps156
 go_wp2_with fail
 refine (c_l2Fields hm ⟨_, pa, pb, pc, n, m, si, sw, nm⟩ hx _).mono ?_
 rintro e w1 ⟨rfl, hB1⟩
 obtain ⟨hc, hfz⟩ := bcell hB1
 have HB : Hid _ := hB1
 clear hB1
 have hz : w.heap.size + 1 < w1.heap.size := by have := HB.out.size; simp at this; omega
 by_cases hs : si = 0 ∧ WOk sw n
 ·obtain ⟨rfl, hw⟩ := hs
  have hw' : decide (WOk sw n) = true := decide_eq_true hw
  have HS : Hid (WOk sw n) := hw
  clear hw
  go_wp2_with (first | (go_at_call 126; refine (c_l2Parts _ _).mono ?_; rintro e w' ⟨rfl, rfl⟩))
  refine (c_SortOkS _ _ _).mono ?_
  rintro e w2 ⟨rfl, hB2⟩
  have hB2' := bstep HB.out (Nat.le_refl _) hB2
  obtain ⟨hc2, hfz2⟩ := bcell hB2'
  have HB2 : Hid _ := hB2'
  clear hB2' hc hfz
  have hz2 : w.heap.size + 1 < w2.heap.size := by have := hB2.size; omega
  clear hB2
  go_wp2_with (first | (go_at_call 121; refine (c_WordOkS _ _ _).mono ?_; rintro e w' ⟨rfl, rfl⟩))
  refine bodyPost_ret (v := .tuple #[.agg #[.int .i64 0, .int .i64 sw], .bool true]) (by simp [results, Tryz.results156, go_sem, hc2]) rfl ?_
  have hok : nOk ns ⟨34, pa, pb, pc, n, m, 0, sw, nm⟩ := by
   rw [← HL.out] at HF
   exact nOk_mk (by rw [HL.out]; exact hlen) HF.out (pss_leaf hp) (by simp [kOk, namedB]; exact HS.out)
  exact nsp_yes hok (by simp [kSort, namedB]) (below_two_set HB2.out)
 ·have HS : Hid (¬ (si = 0 ∧ WOk sw n)) := hs
  by_cases h0 : si = 0
  ·subst h0
   have hw' : decide (WOk sw n) = false := decide_eq_false fun h => hs ⟨rfl, h⟩
   clear hs
   go_wp2_with (first | (go_at_call 126; refine (c_l2Parts _ _).mono ?_; rintro e w' ⟨rfl, rfl⟩))
   refine (c_SortOkS _ _ _).mono ?_
   rintro e w2 ⟨rfl, hB2⟩
   have hB2' := bstep HB.out (Nat.le_refl _) hB2
   obtain ⟨hc2, hfz2⟩ := bcell hB2'
   have HB2 : Hid _ := hB2'
   clear hB2' hc hfz
   have hz2 : w.heap.size + 1 < w2.heap.size := by have := hB2.size; omega
   clear hB2
   go_wp2_with (first | (go_at_call 121; refine (c_WordOkS _ _ _).mono ?_; rintro e w' ⟨rfl, rfl⟩))
   refine bodyPost_ret (v := .tuple #[.agg #[.int .i64 0, .int .i64 0], .bool false]) (by simp [results, Tryz.results156, go_sem, hc2]) rfl ?_
   exact nsp_no (fun h => HS.out (by have := h.2.2.2.2.2.2; simpa [kOk, namedB] using this)) (below_two_set HB2.out)
  ·have h0' : (si == 0) = false := by simpa using h0
   clear hs
   go_wp2_with (first | (go_at_call 126; refine (c_l2Parts _ _).mono ?_; rintro e w' ⟨rfl, rfl⟩))
   refine (c_SortOkS _ _ _).mono ?_
   rintro e w2 ⟨rfl, hB2⟩
   have hB2' := bstep HB.out (Nat.le_refl _) hB2
   obtain ⟨hc2, hfz2⟩ := bcell hB2'
   have HB2 : Hid _ := hB2'
   clear hB2' hc hfz
   have hz2 : w.heap.size + 1 < w2.heap.size := by have := hB2.size; omega
   clear hB2
   go_wp2_with (first | (go_at_call 121; refine (c_WordOkS _ _ _).mono ?_; rintro e w' ⟨rfl, rfl⟩))
   refine bodyPost_ret (v := .tuple #[.agg #[.int .i64 0, .int .i64 0], .bool false]) (by simp [results, Tryz.results156, go_sem, hc2]) rfl ?_
   exact nsp_no (fun h => HS.out (by have := h.2.2.2.2.2.2; simpa [kOk, namedB] using this)) (below_two_set HB2.out)
theorem sortInfo : (Tryz.prog.info? 109).map (fun i => (i.zero, i.size, i.bytes)) = some (some (.agg #[.int .i64 0, .int .i64 0]), 2, 16) := by kernel_rfl
def flat (ns : List ND) (x : ND) (j : Nat) : List Value := (List.range j).flatMap fun t => [.int .i64 (srt ns x t).1, .int .i64 (srt ns x t).2]
theorem flat_succ (ns : List ND) (x : ND) (j : Nat) : flat ns x (j + 1) = flat ns x j ++ [.int .i64 (srt ns x j).1, .int .i64 (srt ns x j).2] := by
 unfold flat; rw [List.range_succ, List.flatMap_append]; simp
theorem flat_length (ns : List ND) (x : ND) (j : Nat) : (flat ns x j).length = 2 * j := by
 induction j with
 | zero => rfl
 | succ j ih => rw [flat_succ, List.length_append, ih]; simp; omega
theorem flat_get {ns : List ND} {x : ND} {j t : Nat} (h : t < j) : (flat ns x j)[2 * t]? = some (.int .i64 (srt ns x t).1) ∧ (flat ns x j)[2 * t + 1]? = some (.int .i64 (srt ns x t).2) := by
 induction j with
 | zero => omega
 | succ j ih =>
  rw [flat_succ]
  by_cases e : t = j
  ·subst e
   rw [List.getElem?_append_right (by rw [flat_length]; omega), List.getElem?_append_right (by rw [flat_length]; omega), flat_length]
   simp
  ·rw [List.getElem?_append_left (by rw [flat_length]; omega), List.getElem?_append_left (by rw [flat_length]; omega)]
   exact ih (by omega)
theorem part_in {len : Nat} {x : ND} {j : Nat} (h : ptsOk len x) (hj : (j : Int) < pcN x.kind) : 0 ≤ partAt x j ∧ partAt x j < len := by
 have h3 := pcN_cases x.kind
 have : ptOk len x j := by
  obtain ⟨h0, h1, h2⟩ := h
  rcases (by omega : j = 0 ∨ j = 1 ∨ j = 2) with rfl | rfl | rfl <;> assumption
 unfold ptOk at this; rw [if_pos hj] at this; exact this
theorem nd_at {B : Nat} {w : World} {a : Option Addr} {len cap : Nat} {ns : List ND} (h : NodesAt B w a len cap ns) (h0 : 0 < len) :
  ∃ b off, a = some ⟨b, off, none⟩ ∧ b < B ∧ ∀ p : Int, 0 ≤ p → p < len → w.cell? ⟨b, off + p.toNat * 9 + 6, none⟩ = some (.int .i64 (sortAt ns p).1) ∧ w.cell? ⟨b, off + p.toNat * 9 + 7, none⟩ = some (.int .i64 (sortAt ns p).2) := by
 obtain ⟨hl, -, -, -, -, h6⟩ := h
 rcases h6 with h6 | ⟨b, off, rfl, hb, hc⟩
 ·omega
 ·refine ⟨b, off, rfl, hb, fun p p0 p1 => ?_⟩
  have hp : p.toNat < ns.length := by omega
  have e : ns.getD p.toNat default = ns[p.toNat] := by simp [List.getD_eq_getElem?_getD, List.getElem?_eq_getElem hp]
  unfold sortAt; rw [e]
  exact ⟨hc p.toNat hp 6 (by omega), hc p.toNat hp 7 (by omega)⟩
theorem own_sorts {w : World} {base g cap j : Nat} {ns : List ND} {x : ND} (h : w.ownsRow base 109 2 (.slice (some ⟨g, 0, none⟩) j cap) j (flat ns x j)) (hj : 0 < j) : SortsAt w g ((List.range j).map (srt ns x)) := by
 have hlt : g < w.heap.size := by
  rcases h.2 with ⟨h', _⟩ | ⟨g', cap', cur, h', _, hg, _⟩
  ·simp at h'
  ·simp only [Value.slice.injEq, Option.some.injEq, Addr.mk.injEq, and_true, true_and] at h'
   obtain ⟨rfl, rfl⟩ := h'
   rcases Nat.lt_or_ge g w.heap.size with h | h
   ·exact h
   ·rw [Array.getElem?_eq_none h] at hg; cases hg
 refine ⟨hlt, fun t ht => ?_⟩
 have ht' : t < j := by simpa using ht
 have := flat_get (ns := ns) (x := x) ht'
 rw [h.cellAt (2 * t) (by omega), h.cellAt (2 * t + 1) (by omega)]
 simpa using this
def InRow (ns : List ND) (x : ND) (N : Nat) (W : World) (s i : Value) (wr : World) : Prop :=
 ∃ j : Nat, (j : Int) ≤ pcN x.kind ∧ i = .int .i64 j ∧ wr.ownsRow N 109 2 s j (flat ns x j) ∧ Below N W wr ∧ ∀ t, t < j → psOk ns x t
theorem own_last {w : World} {base g cap j : Nat} {ns : List ND} {x : ND} {u v : Value} (h : w.ownsRow base 109 2 (.slice (some ⟨g, 0, none⟩) (j + 1) cap) (j + 1) (flat ns x j ++ [u, v])) :
  w.cell? ⟨g, j * 2, none⟩ = some u ∧ w.cell? ⟨g, j * 2 + 1, none⟩ = some v := by
 rw [h.cellAt (j * 2) (by omega), h.cellAt (j * 2 + 1) (by omega), List.getElem?_append_right (by rw [flat_length]; omega), List.getElem?_append_right (by rw [flat_length]; omega), flat_length]
 have e1 : j * 2 - 2 * j = 0 := by omega
 have e2 : j * 2 + 1 - 2 * j = 1 := by omega
 rw [e1, e2]; exact ⟨rfl, rfl⟩
theorem own_below {w w' : World} {base : Nat} {e : TypeId} {size : Nat} {v : Value} {n : Nat} {xs : List Value} (h : w.ownsRow base e size v n xs) (hb : Below w.heap.size w w') : w'.ownsRow base e size v n xs :=
 h.kept (row := none) ⟨hb.os, hb.tape, hb.output, hb.size, fun k hk _ => hb.block k hk⟩ (by cases v.ownBlock <;> simp)
theorem below_own {N : Nat} {W w w' : World} {o : Obj} {e : TypeId} {v : Value} {n : Nat} {xs : List Value} (h : Below N W w) (hN : N ≤ w.heap.size) (hown : w.ownsRow N e 2 v n xs) (hg : (w.alloc o).grownBy w' v.ownBlock) : Below N W w' :=
 (h.alloc hN o).grown hg (by show N ≤ (w.heap.push o).size; simp; omega) (fun k hk => (hown.lt k hk).1)
theorem c_resultAll {ns : List ND} (x : ND) (j : Nat) (hj : (j : Int) = pcN x.kind) (h1 : 1 ≤ pcN x.kind) (hs : pssOk ns x) (g cap : Nat) (w : World) (h : SortsAt w g ((List.range j).map (srt ns x))) :
  Calls Tryz.prog 191 #[.agg x.cells.toArray, .slice (some ⟨g, 0, none⟩) j cap] w (ResP x (srt ns x 0) (srt ns x 1) (srt ns x 2) w) := by
 obtain ⟨s0, s1, s2⟩ := hs
 rcases pcN_cases x.kind with e | e | e | e | e
 ·omega
 ·omega
 ·obtain rfl : j = 1 := by omega
  have z1 : srt ns x 1 = (0, 0) := by unfold srt; rw [if_neg (by omega)]
  have z2 : srt ns x 2 = (0, 0) := by unfold srt; rw [if_neg (by omega)]
  rw [z1, z2]
  exact c_result1 x e _ (s0 (by omega)).1 g cap w h
 ·obtain rfl : j = 2 := by omega
  have z2 : srt ns x 2 = (0, 0) := by unfold srt; rw [if_neg (by omega)]
  rw [z2]
  exact c_result2 x e _ _ (s0 (by omega)).1 (s1 (by omega)).1 g cap w h
 ·obtain rfl : j = 3 := by omega
  exact c_result3 x e _ _ _ g cap w h
theorem below_two_setA {w w1 : World} {A B C : Obj} (h : Below ((w.alloc A).alloc B).heap.size ((w.alloc A).alloc B) w1) {o o' : Nat} {u u' : Value} : Below w.heap.size w (((w1.setCell ⟨w.heap.size + 1, o, none⟩ u).setCell ⟨w.heap.size + 1, o', none⟩ u').alloc C) :=
 (below_two_set h).alloc (below_two_set (o := o) (o' := o') (u := u) (u' := u') h).size _
set_option maxRecDepth 100000 in
set_option maxHeartbeats 8000000 in
theorem c_NodeSortS_parts {B : Nat} {a : Option Addr} {len cap : Nat} {ns : List ND} (x : ND) (hx : x.name.size ≤ maxLen) (w : World) (hBw : B ≤ w.heap.size) (h : NodesAt B w a len cap ns) (hlen : len ≤ 60) (hf : fldOk len x) (hp : 1 ≤ pcN x.kind) :
  Calls Tryz.prog 156 #[.slice a len cap, .agg x.cells.toArray] w (NSP ns x w) := by
 have hd : decide (fldOk len x) = true := decide_eq_true hf
 have HL : Hid (ns.length = len) := h.1
 have HF : Hid (fldOk len x) := hf
 have h0 : 0 < len := by have := part_in (j := 0) hf.2.1 (by omega); omega
 obtain ⟨b, off, rfl, hb, hn⟩ := nd_at h h0
 have HN : Hid _ := hn
 have hp3 : pcN x.kind ≤ 3 := by have := pcN_cases x.kind; omega
 have HX : Hid (∃ y : ND, y = x) := ⟨x, rfl⟩
 clear h hf hn
 have hm : len ≤ maxLen := by unfold maxLen; omega
 obtain ⟨i0, hi0, hz0, hz1, hz2⟩ := info_parts sortInfo
 have HI0 : Hid _ := hi0
 have HZ0 : Hid _ := hz0
 have HZ1 : Hid _ := hz1
 have HZ2 : Hid _ := hz2
 clear hi0 hz0 hz1 hz2
 obtain ⟨k, pa, pb, pc, n, m, si, sw, nm⟩ := x
 simp only [ND.cells] at *
 have hp0 : (pcN k == 0) = false := by simp; omega
 go_enter Tryz.func156, Tryz.ntmps156
 go_wp2_with fail
 refine (c_l2Fields hm ⟨_, pa, pb, pc, n, m, si, sw, nm⟩ hx _).mono ?_
 rintro e w1 ⟨rfl, hB1⟩
 obtain ⟨hc, hfz⟩ := bcell hB1
 have HB : Hid _ := hB1
 have hBw1 : Hid (Below w.heap.size w w1) := below_two_of hB1
 clear hB1
 have hz : w.heap.size + 1 < w1.heap.size := by have := HB.out.size; simp at this; omega
 go_wp2_with (first | (go_at_call 126; refine (c_l2Parts _ _).mono ?_; rintro e w' ⟨rfl, rfl⟩))
 go_loopw [8, 10] (fun s i wr => InRow ns ⟨k, pa, pb, pc, n, m, si, sw, nm⟩ (w1.heap.size + 1) (w1.alloc (.cells #[.int .i64 pa, .int .i64 pb, .int .i64 pc] 3)) s i wr) (fun _ i _ => (pcN k - intOf i).toNat)
 case atStart => exact ⟨0, by simp; omega, rfl, World.ownsRow_nil _ _ _ _, Below.refl _ _, fun t ht => by omega⟩
 case round =>
  obtain ⟨j, hj, rfl, hown, hBr, hps⟩ := hrel
  clear hc hfz
  have HPS : Hid _ := hps
  clear hps
  have Hown := hid hown
  clear hown
  have HBr : Hid _ := hBr
  clear hBr
  by_cases hjk : (j : Int) < pcN k
  ·have hpin := part_in (x := ⟨k, pa, pb, pc, n, m, si, sw, nm⟩) HF.out.2.1 hjk
   obtain ⟨p, hpp⟩ : ∃ p, p = partAt ⟨k, pa, pb, pc, n, m, si, sw, nm⟩ j := ⟨_, rfl⟩
   rw [← hpp] at hpin
   obtain ⟨p0, p1⟩ := hpin
   have hj3 : (j : Int) < 3 := by omega
   have cp : wr.cell? ⟨w1.heap.size, j, none⟩ = some (.int .i64 p) := by
    rw [HBr.out.cell (p := ⟨w1.heap.size, j, none⟩) (by simp), hpp]
    rcases (by omega : j = 0 ∨ j = 1 ∨ j = 2) with rfl | rfl | rfl <;> simp [partAt]
   have hbs : w1.heap.size + 1 ≤ wr.heap.size := by have := HBr.out.size; simp at this; omega
   have HBall : Hid (Below w.heap.size w wr) := hBw1.out.trans (((Below.refl w.heap.size w1).alloc hBw1.out.size _).trans (HBr.out.mono (by have := hBw1.out.size; omega)))
   have hs : srt ns ⟨k, pa, pb, pc, n, m, si, sw, nm⟩ j = sortAt ns p := by unfold srt; rw [if_pos hjk, hpp]
   obtain ⟨n6, n7⟩ := HN.out p p0 p1
   have c6 := (HBall.out.cell (p := ⟨b, off + p.toNat * 9 + 6, none⟩) (by show b < _; omega)).trans n6
   have c7 := (HBall.out.cell (p := ⟨b, off + p.toNat * 9 + 7, none⟩) (by show b < _; omega)).trans n7
   rw [← hs] at c6 c7
   obtain ⟨q1, q2, hq⟩ : ∃ q1 q2, srt ns ⟨k, pa, pb, pc, n, m, si, sw, nm⟩ j = (q1, q2) := ⟨_, _, rfl⟩
   rw [hq] at c6 c7
   have HQ : Hid (srt ns ⟨k, pa, pb, pc, n, m, si, sw, nm⟩ j = (q1, q2)) := hq
   clear hq hs hpp n6 n7
   simp only at c6 c7
   by_cases hsk : SOK q1 q2
   ·have hsk' : decide (SOK q1 q2) = true := decide_eq_true hsk
    have HSK : Hid (SOK q1 q2) := hsk
    clear hsk
    go_wp2_with (first | (at_builtin; (refine wpList_append_lies _ rfl _ _ 199 rfl (w1.heap.size + 1) 109 i0 _ 2 16 Tryz.underlying199 HI0.out HZ0.out HZ1.out HZ2.out rfl (by decide) _ j _ rfl (Hown.out.alloc _) ⟨wr.heap.size, 0, none⟩ 1 1 [.int .i64 q1, .int .i64 q2] rfl rfl (World.news_of_block (cs := #[.int .i64 q1, .int .i64 q2]) (t := 109) (fr := (0, 0)) (heap_alloc_new wr _)) (by simp [Value.oneCell']) (by decide) (by unfold maxLen; omega) (by omega) (by simp; omega) _ rfl ?_); intro g cap' w2 hown2 hgrow hat hlt; have hl2 := own_last hown2; have HL2 := hl2.1; have HL3 := hl2.2; have Hown2 := hid hown2; have HG := hid hgrow; clear hl2 hown2 hgrow))
    refine (c_SortOkS _ _ _).mono ?_
    rintro e w3 ⟨rfl, hB3⟩
    have HB2 := hid (below_own HBr.out hbs Hown.out HG.out)
    have hN2 : w1.heap.size + 1 ≤ w2.heap.size := Nat.le_trans hbs (Nat.le_trans (by simp) HG.out.size)
    have HB3 := hid (HB2.out.trans (hB3.mono hN2))
    have Hown3 := hid (own_below Hown2.out hB3)
    clear hB3 HL2 HL3
    go_wp2
    go_roundw
    case rel => exact ⟨j + 1, by show ((j + 1 : Nat) : Int) ≤ pcN k; omega, by go_num, by rw [flat_succ, HQ.out]; exact Hown3.out, HB3.out, fun t ht => by
     by_cases e : t = j
     ·subst e; intro _; rw [HQ.out]; exact HSK.out
     ·exact HPS.out t (by omega)⟩
    case measure => simp [intOf]; omega
   ·have hsk' : decide (SOK q1 q2) = false := decide_eq_false hsk
    have HSK : Hid (¬ SOK q1 q2) := hsk
    clear hsk
    go_wp2_with (first | (at_builtin; (refine wpList_append_lies _ rfl _ _ 199 rfl (w1.heap.size + 1) 109 i0 _ 2 16 Tryz.underlying199 HI0.out HZ0.out HZ1.out HZ2.out rfl (by decide) _ j _ rfl (Hown.out.alloc _) ⟨wr.heap.size, 0, none⟩ 1 1 [.int .i64 q1, .int .i64 q2] rfl rfl (World.news_of_block (cs := #[.int .i64 q1, .int .i64 q2]) (t := 109) (fr := (0, 0)) (heap_alloc_new wr _)) (by simp [Value.oneCell']) (by decide) (by unfold maxLen; omega) (by omega) (by simp; omega) _ rfl ?_); intro g cap' w2 hown2 hgrow hat hlt; have hl2 := own_last hown2; have HL2 := hl2.1; have HL3 := hl2.2; have Hown2 := hid hown2; have HG := hid hgrow; clear hl2 hown2 hgrow))
    refine (c_SortOkS _ _ _).mono ?_
    rintro e w3 ⟨rfl, hB3⟩
    have HB2 := hid (below_own HBr.out hbs Hown.out HG.out)
    have hN2 : w1.heap.size + 1 ≤ w2.heap.size := Nat.le_trans hbs (Nat.le_trans (by simp) HG.out.size)
    have HB3 := hid (HB2.out.trans (hB3.mono hN2))
    have Hown3 := hid (own_below Hown2.out hB3)
    have HB3w := hid (show Below ((w.alloc _).alloc _).heap.size ((w.alloc _).alloc _) w3 from HB.out.trans ((((Below.refl _ w1).alloc HB.out.size _)).trans (HB3.out.mono (Nat.le_trans HB.out.size (Nat.le_succ _)))))
    obtain ⟨hc3, hfz3⟩ := bcell HB3w.out
    have hz3 : w.heap.size + 1 < w3.heap.size := by have := HB3w.out.size; simp at this; omega
    clear hB3 HL2 HL3
    go_wp2
    refine bodyPost_ret (v := .tuple #[.agg #[.int .i64 0, .int .i64 0], .bool false]) (by simp [results, Tryz.results156, go_sem, hc3]) rfl ?_
    refine nsp_no (fun h => HSK.out ?_) (below_two_set HB3w.out)
    have hps := h.2.2.2.1
    have : psOk ns ⟨k, pa, pb, pc, n, m, si, sw, nm⟩ j := by
     obtain ⟨h0, h1, h2⟩ := hps
     rcases (by omega : j = 0 ∨ j = 1 ∨ j = 2) with rfl | rfl | rfl <;> assumption
    have := this hjk
    rw [HQ.out] at this
    exact this
  ·have hjq : (j : Int) = pcN k := by have : (j : Int) ≤ pcN k := hj; omega
   have hj1 : 0 < j := by omega
   obtain ⟨g, cap', rfl, hgb, hglt⟩ := Hown.out.form hj1
   have HSA := hid (own_sorts Hown.out hj1)
   have HPSS := hid (show pssOk ns ⟨k, pa, pb, pc, n, m, si, sw, nm⟩ from ⟨fun h => HPS.out 0 (by omega) h, fun h => HPS.out 1 (by have : ((1 : Nat) : Int) < pcN k := h; omega) h, fun h => HPS.out 2 (by have : ((2 : Nat) : Int) < pcN k := h; omega) h⟩)
   have HB0 := hid (show Below ((w.alloc _).alloc _).heap.size ((w.alloc _).alloc _) wr from HB.out.trans ((((Below.refl _ w1).alloc HB.out.size _)).trans (HBr.out.mono (Nat.le_trans HB.out.size (Nat.le_succ _)))))
   obtain ⟨hc0, hfz0⟩ := bcell HB0.out
   have Hjq := hid hjq
   by_cases hk : kOk ⟨k, pa, pb, pc, n, m, si, sw, nm⟩ (srt ns ⟨k, pa, pb, pc, n, m, si, sw, nm⟩ 0) (srt ns ⟨k, pa, pb, pc, n, m, si, sw, nm⟩ 1) (srt ns ⟨k, pa, pb, pc, n, m, si, sw, nm⟩ 2)
   ·have HK : Hid (kOk ⟨k, pa, pb, pc, n, m, si, sw, nm⟩ (srt ns ⟨k, pa, pb, pc, n, m, si, sw, nm⟩ 0) (srt ns ⟨k, pa, pb, pc, n, m, si, sw, nm⟩ 1) (srt ns ⟨k, pa, pb, pc, n, m, si, sw, nm⟩ 2)) := hk
    have hk' : decide (kOk ⟨k, pa, pb, pc, n, m, si, sw, nm⟩ (srt ns ⟨k, pa, pb, pc, n, m, si, sw, nm⟩ 0) (srt ns ⟨k, pa, pb, pc, n, m, si, sw, nm⟩ 1) (srt ns ⟨k, pa, pb, pc, n, m, si, sw, nm⟩ 2)) = true := decide_eq_true hk
    clear hk
    go_wp2_with fail
    refine (c_resultAll ⟨k, pa, pb, pc, n, m, si, sw, nm⟩ j hjq hp HPSS.out g cap' wr HSA.out).mono ?_
    rintro e w2 ⟨i, q, rfl, hq, hB2⟩
    have HQ := hid hq
    have HB2 := hid (bstep HB0.out (Nat.le_refl _) hB2)
    clear hq hB2 hc0 hfz0
    obtain ⟨hc2, hfz2⟩ := bcell HB2.out
    have hz2 : w.heap.size + 1 < w2.heap.size := by have := HB2.out.size; simp at this; omega
    go_wp2
    refine bodyPost_ret (v := .tuple #[.agg #[.int .i64 i, .int .i64 q], .bool true]) (by simp [results, Tryz.results156, go_sem, hc2, hz2]) rfl ?_
    have hok : nOk ns ⟨k, pa, pb, pc, n, m, si, sw, nm⟩ := by
     rw [← HL.out] at HF
     exact nOk_mk (by rw [HL.out]; exact hlen) HF.out HPSS.out HK.out
    exact nsp_yes hok (HQ.out HK.out) (below_two_setA HB2.out)
   ·have HK : Hid (¬ kOk ⟨k, pa, pb, pc, n, m, si, sw, nm⟩ (srt ns ⟨k, pa, pb, pc, n, m, si, sw, nm⟩ 0) (srt ns ⟨k, pa, pb, pc, n, m, si, sw, nm⟩ 1) (srt ns ⟨k, pa, pb, pc, n, m, si, sw, nm⟩ 2)) := hk
    have hk' : decide (kOk ⟨k, pa, pb, pc, n, m, si, sw, nm⟩ (srt ns ⟨k, pa, pb, pc, n, m, si, sw, nm⟩ 0) (srt ns ⟨k, pa, pb, pc, n, m, si, sw, nm⟩ 1) (srt ns ⟨k, pa, pb, pc, n, m, si, sw, nm⟩ 2)) = false := decide_eq_false hk
    clear hk
    go_wp2_with fail
    refine (c_resultAll ⟨k, pa, pb, pc, n, m, si, sw, nm⟩ j hjq hp HPSS.out g cap' wr HSA.out).mono ?_
    rintro e w2 ⟨i, q, rfl, hq, hB2⟩
    have HQ := hid hq
    have HB2 := hid (bstep HB0.out (Nat.le_refl _) hB2)
    clear hq hB2 hc0 hfz0
    obtain ⟨hc2, hfz2⟩ := bcell HB2.out
    have hz2 : w.heap.size + 1 < w2.heap.size := by have := HB2.out.size; simp at this; omega
    go_wp2
    refine bodyPost_ret (v := .tuple #[.agg #[.int .i64 0, .int .i64 0], .bool false]) (by simp [results, Tryz.results156, go_sem, hc2, hz2]) rfl ?_
    exact nsp_no (fun h => HK.out h.2.2.2.2.2.2) (below_two_setA HB2.out)
theorem c_NodeSortS {B : Nat} {a : Option Addr} {len cap : Nat} {ns : List ND} (x : ND) (hx : x.name.size ≤ maxLen) (w : World) (hBw : B ≤ w.heap.size) (h : NodesAt B w a len cap ns) :
  Calls Tryz.prog 156 #[.slice a len cap, .agg x.cells.toArray] w (NSP ns x w) := by
 have hm : len ≤ maxLen := Nat.le_trans h.2.1 h.2.2.1
 by_cases h60 : len ≤ 60
 ·by_cases hf : fldOk len x
  ·by_cases hp : 1 ≤ pcN x.kind
   ·exact c_NodeSortS_parts x hx w hBw h h60 hf hp
   ·have hp0 : pcN x.kind = 0 := by have := hf.1; omega
    have hk : x.kind = 34 ∨ x.kind = 35 ∨ x.kind = 36 := by unfold pcN at hp0; (repeat' split at hp0) <;> omega
    rcases hk with hk | hk | hk
    ·exact c_NodeSortS_34 x hx w h.1 h60 hf hk
    ·exact c_NodeSortS_35 x hx w h.1 h60 hf hk
    ·exact c_NodeSortS_36 x hx w h.1 h60 hf hk
  ·exact c_NodeSortS_fields x hx w h.1 h60 hf
 ·exact c_NodeSortS_long x w h.1 hm (by omega)
end Go.Proofs.YtlcgimadbpagfaaGreat
namespace Go.Proofs.YtlcgimadbpagfaaGreat
open Go.Lib
open Go.ChangeShapes Go.WideShapes Go.ChangeAt Go.RowKit
set_option linter.unusedVariables false
theorem c_wordSort (n : Int) (w : World) :
  Calls Tryz.prog 184 #[.int .i64 n] w fun e w' => e = .returned (.agg #[.int .i64 0, .int .i64 n]) ∧ w' = w.alloc (.cells #[.int .i64 0, .int .i64 n] 109) := by
 go_enter Tryz.func184, Tryz.ntmps184
 go_wp2
 exact bodyPost_ret (v := .agg #[.int .i64 0, .int .i64 n]) (results_cell_row rfl _ _ w.heap.size 109 #[.int .i64 0, .int .i64 n] (0, 0) _ rfl (heap_alloc_new _ _) Tryz.underlying109 rfl (by kernel_rfl)) rfl ⟨rfl, rfl⟩
theorem c_placeOk {a : Option Addr} {len cap : Nat} (hl : len ≤ maxLen) (p : Int) (w : World) :
  Calls Tryz.prog 183 #[.slice a len cap, .int .i64 p] w fun e w' => e = .returned (.bool (decide (0 ≤ p ∧ p < len))) ∧ w = w' := by
 by_cases h : 0 ≤ p
 ·go_enter Tryz.func183, Tryz.ntmps183
  go_wp2
  go_ret
  exact ⟨ret_bool (by simp [h]), rfl⟩
 ·go_enter Tryz.func183, Tryz.ntmps183
  go_wp2
  go_ret
  exact ⟨ret_bool (by simp; omega), rfl⟩
theorem ncN_cases (k : Int) : ncN k = 0 ∨ ncN k = 1 ∨ ncN k = 2 := by unfold ncN; (repeat' split) <;> omega
theorem c_numbersOk (x : ND) (w : World) :
  Calls Tryz.prog 200 #[.agg x.cells.toArray] w fun e w' => e = .returned (.bool (decide (numOk x))) ∧ Below w.heap.size w w' := by
 have hn := ncN_cases x.kind
 have HN : Hid (numOk x ↔ ((ncN x.kind < 1 → x.n = 0) ∧ (ncN x.kind < 2 → x.m = 0))) := Iff.rfl
 obtain ⟨k, pa, pb, pc, n, m, si, sw, nm⟩ := x
 simp only [ND.cells] at *
 rcases hn with h | h | h
 all_goals
  by_cases hn0 : n = 0
  all_goals
   by_cases hm0 : m = 0
   all_goals
    go_enter Tryz.func200, Tryz.ntmps200
    go_wp2_with (first | (go_at_call 237; refine (c_numberCount _ _).mono ?_; rintro e w' ⟨rfl, rfl⟩))
    go_ret
    refine ⟨ret_bool ?_, by go_grown⟩
    go_light
    have : decide (numOk ⟨k, pa, pb, pc, n, m, si, sw, nm⟩) = decide ((ncN k < 1 → n = 0) ∧ (ncN k < 2 → m = 0)) := dec_iff HN.out
    rw [this]
    simp_all
theorem c_nodeNameOk (x : ND) (hx : x.name.size ≤ maxLen) (w : World) :
  Calls Tryz.prog 201 #[.agg x.cells.toArray] w fun e w' => e = .returned (.bool (nmOk x)) ∧ Below w.heap.size w w' := by
 by_cases hn : namedB x.kind = true
 ·have HN := hid (show nmOk x = nameB x.name by unfold nmOk; rw [if_pos hn])
  obtain ⟨k, pa, pb, pc, n, m, si, sw, nm⟩ := x
  simp only [ND.cells] at *
  go_enter Tryz.func201, Tryz.ntmps201
  go_wp2_with (first | (go_at_call 90; refine (c_kindNamed _ _).mono ?_; rintro e w' ⟨rfl, rfl⟩) | (go_at_call 238; refine (c_nameOk _ hx _).mono ?_; rintro e w' ⟨rfl, rfl⟩))
  go_ret
  exact ⟨ret_bool HN.out.symm, by go_grown⟩
 ·have hn' : namedB x.kind = false := by simpa using hn
  have HN := hid (show nmOk x = x.name.data.toList.isEmpty by unfold nmOk; rw [if_neg hn])
  clear hn
  obtain ⟨k, pa, pb, pc, n, m, si, sw, nm⟩ := x
  simp only [ND.cells] at *
  go_enter Tryz.func201, Tryz.ntmps201
  go_wp2_with (first | (go_at_call 90; refine (c_kindNamed _ _).mono ?_; rintro e w' ⟨rfl, rfl⟩) | (go_at_call 238; refine (c_nameOk _ hx _).mono ?_; rintro e w' ⟨rfl, rfl⟩))
  go_ret
  exact ⟨ret_bool (by rw [HN.out, Go.ByteArray.toList_eq]), by go_grown⟩
end Go.Proofs.YtlcgimadbpagfaaGreat
namespace Go.Proofs.YtlcgimadbpagfaaGreat
open Go.Lib
open Go.ChangeShapes Go.WideShapes Go.ChangeAt Go.RowKit
set_option linter.unusedVariables false
theorem grow_any (n a more : Int) (s : Bool) : (growR n a more s).2 = (growR n a more false).2 := by unfold growR; split <;> rfl
def KWP (x : ND) (u v : Int) (w : World) (e : Ending) (w' : World) : Prop := e = .returned (.tuple #[.int .i64 (kWidth x u v).1, .bool (kWidth x u v).2]) ∧ Below w.heap.size w w'
theorem kwp {x : ND} {u v : Int} {w w' : World} {r : Int × Bool} (h : kWidth x u v = r) (hb : Below w.heap.size w w') : KWP x u v w (.returned (.tuple #[.int .i64 r.1, .bool r.2])) w' := ⟨by rw [h], hb⟩
theorem below_boxed1 {w w1 : World} {o : Obj} (h : Below (w.alloc o).heap.size (w.alloc o) w1) : Below w.heap.size w w1 :=
 ((Below.refl _ _).alloc (Nat.le_refl _) _).trans (h.mono (Nat.le_of_lt (alloc_ltS _ _)))
set_option maxRecDepth 100000 in
set_option maxHeartbeats 2000000 in
theorem c_kw29 (x : ND) (hk : x.kind = 29) (u v : Int) (w : World) :
  Calls Tryz.prog 240 #[.agg x.cells.toArray, .int .i64 u, .int .i64 v] w (KWP x u v w) := by
 have HK := hid (show kWidth x u v = _ from by unfold kWidth; rw [if_pos hk])
 obtain ⟨k, pa, pb, pc, n, m, si, sw, nm⟩ := x
 simp only [ND.cells] at *
 subst hk
 go_enter Tryz.func240, Tryz.ntmps240
 go_wp2_with (first | (go_at_call 174; refine (c_WordJoinI _ _ _ _ _).mono ?_; rintro e w1 ⟨rfl, rfl⟩))
 go_ret2
 exact kwp HK.out (by go_grown)
set_option maxRecDepth 100000 in
set_option maxHeartbeats 2000000 in
theorem c_kw30 (x : ND) (hk : x.kind = 30) (u v : Int) (w : World) :
  Calls Tryz.prog 240 #[.agg x.cells.toArray, .int .i64 u, .int .i64 v] w (KWP x u v w) := by
 have HK := hid (show kWidth x u v = _ from by unfold kWidth; rw [if_neg (by omega), if_pos hk])
 obtain ⟨k, pa, pb, pc, n, m, si, sw, nm⟩ := x
 simp only [ND.cells] at *
 subst hk
 go_enter Tryz.func240, Tryz.ntmps240
 go_wp2_with (first | (go_at_call 175; refine (c_WordSliceI _ _ _ _ _).mono ?_; rintro e w1 ⟨rfl, rfl⟩))
 go_ret2
 exact kwp HK.out (by go_grown)
set_option maxRecDepth 100000 in
set_option maxHeartbeats 2000000 in
theorem c_kw31 (x : ND) (hk : x.kind = 31) (u v : Int) (w : World) :
  Calls Tryz.prog 240 #[.agg x.cells.toArray, .int .i64 u, .int .i64 v] w (KWP x u v w) := by
 have HK := hid (show kWidth x u v = _ from (show kWidth x u v = (growR u 0 x.n false).2 by unfold kWidth; rw [if_neg (by omega), if_neg (by omega), if_pos (by omega), grow_any u 0 x.n false]))
 obtain ⟨k, pa, pb, pc, n, m, si, sw, nm⟩ := x
 simp only [ND.cells] at *
 subst hk
 go_enter Tryz.func240, Tryz.ntmps240
 go_wp2_with (first | (go_at_call 176; refine (c_WordGrowI _ _ _ _ _).mono ?_; rintro e w1 ⟨rfl, rfl⟩))
 go_ret2
 exact kwp HK.out (by go_grown)
set_option maxRecDepth 100000 in
set_option maxHeartbeats 2000000 in
theorem c_kw32 (x : ND) (hk : x.kind = 32) (u v : Int) (w : World) :
  Calls Tryz.prog 240 #[.agg x.cells.toArray, .int .i64 u, .int .i64 v] w (KWP x u v w) := by
 have HK := hid (show kWidth x u v = _ from (show kWidth x u v = (growR u 0 x.n true).2 by unfold kWidth; rw [if_neg (by omega), if_neg (by omega), if_pos (by omega), grow_any u 0 x.n true]))
 obtain ⟨k, pa, pb, pc, n, m, si, sw, nm⟩ := x
 simp only [ND.cells] at *
 subst hk
 go_enter Tryz.func240, Tryz.ntmps240
 go_wp2_with (first | (go_at_call 176; refine (c_WordGrowI _ _ _ _ _).mono ?_; rintro e w1 ⟨rfl, rfl⟩))
 go_ret2
 exact kwp HK.out (by go_grown)
set_option maxRecDepth 100000 in
set_option maxHeartbeats 2000000 in
theorem c_kw1 (x : ND) (hk : x.kind = 1) (u v : Int) (w : World) :
  Calls Tryz.prog 240 #[.agg x.cells.toArray, .int .i64 u, .int .i64 v] w (KWP x u v w) := by
 have HK := hid (show kWidth x u v = _ from (show kWidth x u v = (oneR 1 u 0).2 by unfold kWidth; rw [if_neg (by omega), if_neg (by omega), if_neg (by omega), if_pos (by omega), hk]))
 obtain ⟨k, pa, pb, pc, n, m, si, sw, nm⟩ := x
 simp only [ND.cells] at *
 subst hk
 go_enter Tryz.func240, Tryz.ntmps240
 go_wp2_with (first | (go_at_call 171; refine (c_WordOneI _ _ _ _).mono ?_; rintro e w1 ⟨rfl, hB⟩))
 go_ret2
 exact kwp HK.out ((below_boxed1 hB))
set_option maxRecDepth 100000 in
set_option maxHeartbeats 2000000 in
theorem c_kw2 (x : ND) (hk : x.kind = 2) (u v : Int) (w : World) :
  Calls Tryz.prog 240 #[.agg x.cells.toArray, .int .i64 u, .int .i64 v] w (KWP x u v w) := by
 have HK := hid (show kWidth x u v = _ from (show kWidth x u v = (oneR 2 u 0).2 by unfold kWidth; rw [if_neg (by omega), if_neg (by omega), if_neg (by omega), if_pos (by omega), hk]))
 obtain ⟨k, pa, pb, pc, n, m, si, sw, nm⟩ := x
 simp only [ND.cells] at *
 subst hk
 go_enter Tryz.func240, Tryz.ntmps240
 go_wp2_with (first | (go_at_call 171; refine (c_WordOneI _ _ _ _).mono ?_; rintro e w1 ⟨rfl, hB⟩))
 go_ret2
 exact kwp HK.out ((below_boxed1 hB))
set_option maxRecDepth 100000 in
set_option maxHeartbeats 2000000 in
theorem c_kw3 (x : ND) (hk : x.kind = 3) (u v : Int) (w : World) :
  Calls Tryz.prog 240 #[.agg x.cells.toArray, .int .i64 u, .int .i64 v] w (KWP x u v w) := by
 have HK := hid (show kWidth x u v = _ from (show kWidth x u v = (oneR 3 u 0).2 by unfold kWidth; rw [if_neg (by omega), if_neg (by omega), if_neg (by omega), if_pos (by omega), hk]))
 obtain ⟨k, pa, pb, pc, n, m, si, sw, nm⟩ := x
 simp only [ND.cells] at *
 subst hk
 go_enter Tryz.func240, Tryz.ntmps240
 go_wp2_with (first | (go_at_call 171; refine (c_WordOneI _ _ _ _).mono ?_; rintro e w1 ⟨rfl, hB⟩))
 go_ret2
 exact kwp HK.out ((below_boxed1 hB))
set_option maxRecDepth 100000 in
set_option maxHeartbeats 2000000 in
theorem c_kw4 (x : ND) (hk : x.kind = 4) (u v : Int) (w : World) :
  Calls Tryz.prog 240 #[.agg x.cells.toArray, .int .i64 u, .int .i64 v] w (KWP x u v w) := by
 have HK := hid (show kWidth x u v = _ from (show kWidth x u v = (oneR 4 u 0).2 by unfold kWidth; rw [if_neg (by omega), if_neg (by omega), if_neg (by omega), if_pos (by omega), hk]))
 obtain ⟨k, pa, pb, pc, n, m, si, sw, nm⟩ := x
 simp only [ND.cells] at *
 subst hk
 go_enter Tryz.func240, Tryz.ntmps240
 go_wp2_with (first | (go_at_call 171; refine (c_WordOneI _ _ _ _).mono ?_; rintro e w1 ⟨rfl, hB⟩))
 go_ret2
 exact kwp HK.out ((below_boxed1 hB))
set_option maxRecDepth 100000 in
set_option maxHeartbeats 2000000 in
theorem c_kw5 (x : ND) (hk : x.kind = 5) (u v : Int) (w : World) :
  Calls Tryz.prog 240 #[.agg x.cells.toArray, .int .i64 u, .int .i64 v] w (KWP x u v w) := by
 have HK := hid (show kWidth x u v = _ from (show kWidth x u v = (oneR 5 u 0).2 by unfold kWidth; rw [if_neg (by omega), if_neg (by omega), if_neg (by omega), if_pos (by omega), hk]))
 obtain ⟨k, pa, pb, pc, n, m, si, sw, nm⟩ := x
 simp only [ND.cells] at *
 subst hk
 go_enter Tryz.func240, Tryz.ntmps240
 go_wp2_with (first | (go_at_call 171; refine (c_WordOneI _ _ _ _).mono ?_; rintro e w1 ⟨rfl, hB⟩))
 go_ret2
 exact kwp HK.out ((below_boxed1 hB))
set_option maxRecDepth 100000 in
set_option maxHeartbeats 2000000 in
theorem c_kwTwo (x : ND) (hk1 : 6 ≤ x.kind) (hk2 : x.kind ≤ 28) (u v : Int) (w : World) :
  Calls Tryz.prog 240 #[.agg x.cells.toArray, .int .i64 u, .int .i64 v] w (KWP x u v w) := by
 have HK := hid (show kWidth x u v = ((twoR x.kind u 0 0).2.1, (twoR x.kind u 0 0).2.2 && decide (u = v)) by unfold kWidth; rw [if_neg (by omega), if_neg (by omega), if_neg (by omega), if_neg (by omega)])
 obtain ⟨k, pa, pb, pc, n, m, si, sw, nm⟩ := x
 simp only [ND.cells] at *
 have e29 : (k == 29) = false := by simp; omega
 have e30 : (k == 30) = false := by simp; omega
 have e31 : (k == 31) = false := by simp; omega
 have e32 : (k == 32) = false := by simp; omega
 have e1 : (k == 1) = false := by simp; omega
 have e2 : (k == 2) = false := by simp; omega
 have e3 : (k == 3) = false := by simp; omega
 have e4 : (k == 4) = false := by simp; omega
 have e5 : (k == 5) = false := by simp; omega
 by_cases hok : (twoR k u 0 0).2.2 = true
 ·by_cases huv : u = v
  ·subst huv
   go_enter Tryz.func240, Tryz.ntmps240
   go_wp2_with (first | (go_at_call 173; refine (c_WordTwoI _ _ _ _ _).mono ?_; rintro e w1 ⟨rfl, hB⟩))
   go_ret2
   have := kwp (w := w) (w' := w1) HK.out (below_boxed1 hB)
   simpa [hok] using this
  ·have q : (u == v) = false := by simpa using huv
   go_enter Tryz.func240, Tryz.ntmps240
   go_wp2_with (first | (go_at_call 173; refine (c_WordTwoI _ _ _ _ _).mono ?_; rintro e w1 ⟨rfl, hB⟩))
   go_ret2
   have := kwp (w := w) (w' := w1) HK.out (below_boxed1 hB)
   simpa [hok, huv] using this
 ·have hok' : (twoR k u 0 0).2.2 = false := by simpa using hok
  go_enter Tryz.func240, Tryz.ntmps240
  go_wp2_with (first | (go_at_call 173; refine (c_WordTwoI _ _ _ _ _).mono ?_; rintro e w1 ⟨rfl, hB⟩))
  go_ret2
  have := kwp (w := w) (w' := w1) HK.out (below_boxed1 hB)
  simpa [hok'] using this
set_option maxRecDepth 100000 in
set_option maxHeartbeats 2000000 in
theorem c_indexFits (ai aw bi bw : Int) (w : World) :
  Calls Tryz.prog 239 #[.agg #[.int .i64 ai, .int .i64 aw], .agg #[.int .i64 bi, .int .i64 bw]] w fun e w' => e = .returned (.bool (decide (0 < ai ∧ bi = 0 ∧ bw = ai))) ∧ Below w.heap.size w w' := by
 by_cases h1 : 0 < ai
 ·by_cases h2 : bi = 0
  ·subst h2
   by_cases h3 : bw = ai
   ·subst h3
    have cA : ((w.alloc (.cells #[.int .i64 bw, .int .i64 aw] 109)).alloc (.cells #[.int .i64 0, .int .i64 bw] 109)).cell? ⟨w.heap.size, 0, none⟩ = some (.int .i64 bw) := by simp
    have cB : ((w.alloc (.cells #[.int .i64 bw, .int .i64 aw] 109)).alloc (.cells #[.int .i64 0, .int .i64 bw] 109)).cell? ⟨w.heap.size + 1, 0, none⟩ = some (.int .i64 0) := by simp
    have cC : ((w.alloc (.cells #[.int .i64 bw, .int .i64 aw] 109)).alloc (.cells #[.int .i64 0, .int .i64 bw] 109)).cell? ⟨w.heap.size + 1, 1, none⟩ = some (.int .i64 bw) := by simp
    go_enter Tryz.func239, Tryz.ntmps239
    go_wp2_with fail
    refine wp_region_held_drew (S := (fun w' => w'.cell? ⟨w.heap.size, 0, none⟩ = some (.int .i64 bw) ∧ w'.cell? ⟨w.heap.size + 1, 0, none⟩ = some (.int .i64 0) ∧ w'.cell? ⟨w.heap.size + 1, 1, none⟩ = some (.int .i64 bw))) (by kernel_rfl) ?_ (fun hHeld => ?_)
    ·exact ⟨keepc (by go_grown) (by simp; omega) cA, keepc (by go_grown) (by simp) cB, keepc (by go_grown) (by simp) cC⟩
    refine tL 0 (some 5) ?_
    refine tL 1 (some 6) ?_
    refine tL 2 (some 7) ?_
    refine tL 3 (some 8) ?_
    refine tL 4 (some 9) ?_
    refine tL 5 (some 10) ?_
    refine tL 6 (some 11) ?_
    refine wpAnyH_ready (rs := [7]) (by kernel_rfl) (by simp) ?_
    refine .cons (o := _) rfl (fun K hK => ?_) .nil
    go_simp
    refine (c_wordSort _ _).mono ?_; rintro e w' ⟨rfl, rfl⟩
    (try go_wp2_with fail)
    refine hK.out _ _ ?_ (fun hHeld => ?_)
    ·exact ⟨keepc (by go_grown) (by simp; omega) cA, keepc (by go_grown) (by simp) cB, keepc (by go_grown) (by simp) cC⟩
    clear hK K
    (try simp only [Act.put, zq1, zq2, zq3])
    refine tL 8 (some 13) ?_
    refine tL 9 (some 14) ?_
    refine tL 10 (some 4) ?_
    refine wpAnyH_done (by kernel_rfl) ?_ _
    go_wp2
    go_ret
    exact ⟨ret_bool (by symm; apply decide_eq_true; simp; exact h1), by go_grown⟩
   ·have q : (bw == ai) = false := by simpa using h3
    have cA : ((w.alloc (.cells #[.int .i64 ai, .int .i64 aw] 109)).alloc (.cells #[.int .i64 0, .int .i64 bw] 109)).cell? ⟨w.heap.size, 0, none⟩ = some (.int .i64 ai) := by simp
    have cB : ((w.alloc (.cells #[.int .i64 ai, .int .i64 aw] 109)).alloc (.cells #[.int .i64 0, .int .i64 bw] 109)).cell? ⟨w.heap.size + 1, 0, none⟩ = some (.int .i64 0) := by simp
    have cC : ((w.alloc (.cells #[.int .i64 ai, .int .i64 aw] 109)).alloc (.cells #[.int .i64 0, .int .i64 bw] 109)).cell? ⟨w.heap.size + 1, 1, none⟩ = some (.int .i64 bw) := by simp
    go_enter Tryz.func239, Tryz.ntmps239
    go_wp2_with fail
    refine wp_region_held_drew (S := (fun w' => w'.cell? ⟨w.heap.size, 0, none⟩ = some (.int .i64 ai) ∧ w'.cell? ⟨w.heap.size + 1, 0, none⟩ = some (.int .i64 0) ∧ w'.cell? ⟨w.heap.size + 1, 1, none⟩ = some (.int .i64 bw))) (by kernel_rfl) ?_ (fun hHeld => ?_)
    ·exact ⟨keepc (by go_grown) (by simp; omega) cA, keepc (by go_grown) (by simp) cB, keepc (by go_grown) (by simp) cC⟩
    refine tL 0 (some 5) ?_
    refine tL 1 (some 6) ?_
    refine tL 2 (some 7) ?_
    refine tL 3 (some 8) ?_
    refine tL 4 (some 9) ?_
    refine tL 5 (some 10) ?_
    refine tL 6 (some 11) ?_
    refine wpAnyH_ready (rs := [7]) (by kernel_rfl) (by simp) ?_
    refine .cons (o := _) rfl (fun K hK => ?_) .nil
    go_simp
    refine (c_wordSort _ _).mono ?_; rintro e w' ⟨rfl, rfl⟩
    (try go_wp2_with fail)
    refine hK.out _ _ ?_ (fun hHeld => ?_)
    ·exact ⟨keepc (by go_grown) (by simp; omega) cA, keepc (by go_grown) (by simp) cB, keepc (by go_grown) (by simp) cC⟩
    clear hK K
    (try simp only [Act.put, zq1, zq2, zq3])
    refine tL 8 (some 13) ?_
    refine tL 9 (some 14) ?_
    refine tL 10 (some 4) ?_
    refine wpAnyH_done (by kernel_rfl) ?_ _
    go_wp2
    go_ret
    exact ⟨ret_bool (by symm; apply decide_eq_false; omega), by go_grown⟩
  ·have q : (bi == 0) = false := by simpa using h2
   have cA : ((w.alloc (.cells #[.int .i64 ai, .int .i64 aw] 109)).alloc (.cells #[.int .i64 bi, .int .i64 bw] 109)).cell? ⟨w.heap.size, 0, none⟩ = some (.int .i64 ai) := by simp
   have cB : ((w.alloc (.cells #[.int .i64 ai, .int .i64 aw] 109)).alloc (.cells #[.int .i64 bi, .int .i64 bw] 109)).cell? ⟨w.heap.size + 1, 0, none⟩ = some (.int .i64 bi) := by simp
   have cC : ((w.alloc (.cells #[.int .i64 ai, .int .i64 aw] 109)).alloc (.cells #[.int .i64 bi, .int .i64 bw] 109)).cell? ⟨w.heap.size + 1, 1, none⟩ = some (.int .i64 bw) := by simp
   go_enter Tryz.func239, Tryz.ntmps239
   go_wp2_with fail
   refine wp_region_held_drew (S := (fun w' => w'.cell? ⟨w.heap.size, 0, none⟩ = some (.int .i64 ai) ∧ w'.cell? ⟨w.heap.size + 1, 0, none⟩ = some (.int .i64 bi) ∧ w'.cell? ⟨w.heap.size + 1, 1, none⟩ = some (.int .i64 bw))) (by kernel_rfl) ?_ (fun hHeld => ?_)
   ·exact ⟨keepc (by go_grown) (by simp; omega) cA, keepc (by go_grown) (by simp) cB, keepc (by go_grown) (by simp) cC⟩
   refine tL 0 (some 5) ?_
   refine tL 1 (some 6) ?_
   refine tL 2 (some 7) ?_
   refine tL 3 (some 8) ?_
   refine tL 4 (some 9) ?_
   refine tL 5 (some 10) ?_
   refine tL 6 (some 11) ?_
   refine wpAnyH_ready (rs := [7]) (by kernel_rfl) (by simp) ?_
   refine .cons (o := _) rfl (fun K hK => ?_) .nil
   go_simp
   refine (c_wordSort _ _).mono ?_; rintro e w' ⟨rfl, rfl⟩
   (try go_wp2_with fail)
   refine hK.out _ _ ?_ (fun hHeld => ?_)
   ·exact ⟨keepc (by go_grown) (by simp; omega) cA, keepc (by go_grown) (by simp) cB, keepc (by go_grown) (by simp) cC⟩
   clear hK K
   (try simp only [Act.put, zq1, zq2, zq3])
   refine tL 8 (some 13) ?_
   refine tL 9 (some 14) ?_
   refine tL 10 (some 4) ?_
   refine wpAnyH_done (by kernel_rfl) ?_ _
   go_wp2
   go_ret
   exact ⟨ret_bool (by symm; apply decide_eq_false; omega), by go_grown⟩
 ·have q : decide (0 < ai) = false := by simpa using h1
  have cA : ((w.alloc (.cells #[.int .i64 ai, .int .i64 aw] 109)).alloc (.cells #[.int .i64 bi, .int .i64 bw] 109)).cell? ⟨w.heap.size, 0, none⟩ = some (.int .i64 ai) := by simp
  have cB : ((w.alloc (.cells #[.int .i64 ai, .int .i64 aw] 109)).alloc (.cells #[.int .i64 bi, .int .i64 bw] 109)).cell? ⟨w.heap.size + 1, 0, none⟩ = some (.int .i64 bi) := by simp
  have cC : ((w.alloc (.cells #[.int .i64 ai, .int .i64 aw] 109)).alloc (.cells #[.int .i64 bi, .int .i64 bw] 109)).cell? ⟨w.heap.size + 1, 1, none⟩ = some (.int .i64 bw) := by simp
  go_enter Tryz.func239, Tryz.ntmps239
  go_wp2_with fail
  refine wp_region_held_drew (S := (fun w' => w'.cell? ⟨w.heap.size, 0, none⟩ = some (.int .i64 ai) ∧ w'.cell? ⟨w.heap.size + 1, 0, none⟩ = some (.int .i64 bi) ∧ w'.cell? ⟨w.heap.size + 1, 1, none⟩ = some (.int .i64 bw))) (by kernel_rfl) ?_ (fun hHeld => ?_)
  ·exact ⟨keepc (by go_grown) (by simp; omega) cA, keepc (by go_grown) (by simp) cB, keepc (by go_grown) (by simp) cC⟩
  refine tL 0 (some 5) ?_
  refine tL 1 (some 6) ?_
  refine tL 2 (some 7) ?_
  refine tL 3 (some 8) ?_
  refine tU 4 (some 9) ?_
  refine tU 5 (some 10) ?_
  refine tU 6 (some 11) ?_
  refine tU 7 (some 12) ?_
  refine tU 8 (some 13) ?_
  refine tL 9 (some 14) ?_
  refine tL 10 (some 4) ?_
  refine wpAnyH_done (by kernel_rfl) ?_ _
  go_wp2
  go_ret
  exact ⟨ret_bool (by symm; apply decide_eq_false; omega), by go_grown⟩
end Go.Proofs.YtlcgimadbpagfaaGreat
namespace Go.Proofs.YtlcgimadbpagfaaGreat
open Go.Lib
open Go.ChangeShapes Go.WideShapes Go.ChangeAt Go.RowKit
set_option linter.unusedVariables false
theorem cell3_0 (W : World) (cs : Array Value) (t : TypeId) (B C : Obj) (i : Nat) : (((W.alloc (.cells cs t)).alloc B).alloc C).cell? ⟨W.heap.size, i, none⟩ = cs[i]? :=
 (Below.cell (w := W.alloc (.cells cs t)) (B := (W.alloc (.cells cs t)).heap.size) (by go_grown) (p := ⟨W.heap.size, i, none⟩) (alloc_ltS _ _)).trans (World.cell?_alloc_new _ _ _ _)
theorem cell3_1 (W : World) (A : Obj) (cs : Array Value) (t : TypeId) (C : Obj) (i : Nat) : (((W.alloc A).alloc (.cells cs t)).alloc C).cell? ⟨W.heap.size + 1, i, none⟩ = cs[i]? :=
 cell_of_row _ _ i cs t (0, 0) (heap_alloc2_at W A _ C)
theorem cell3_2 (W : World) (A B : Obj) (cs : Array Value) (t : TypeId) (i : Nat) : (((W.alloc A).alloc B).alloc (.cells cs t)).cell? ⟨W.heap.size + 2, i, none⟩ = cs[i]? := by
 have e : ((W.alloc A).alloc B).heap.size = W.heap.size + 2 := by simp
 rw [← e]; exact World.cell?_alloc_new _ _ _ _
theorem size3 (W : World) (A B C : Obj) : (((W.alloc A).alloc B).alloc C).heap.size = W.heap.size + 3 := by simp
theorem frozen_of_new (w : World) (cs : Array Value) (t : TypeId) (i : Nat) : (w.alloc (.cells cs t)).frozen? ⟨w.heap.size, i, none⟩ = false := by
 have h := heap_alloc_new w (.cells cs t)
 simp only [World.frozen?]
 rw [h]
 simp
theorem cell3_0f (W : World) (A B : Obj) (cs : Array Value) (t : TypeId) (i : Nat) : (((W.alloc A).alloc B).alloc (.cells cs t)).frozen? ⟨W.heap.size + 2, i, none⟩ = false := by
 have e : ((W.alloc A).alloc B).heap.size = W.heap.size + 2 := by simp
 rw [← e]; exact frozen_of_new _ _ _ _
structure Sav (r : Nat) (w w' : World) : Prop where
 size : w.heap.size ≤ w'.heap.size
 cell : ∀ b o, b < w.heap.size → b ≠ r → w'.cell? ⟨b, o, none⟩ = w.cell? ⟨b, o, none⟩
theorem Sav.refl (r : Nat) (w : World) : Sav r w w := ⟨Nat.le_refl _, fun _ _ _ _ => rfl⟩
theorem Sav.drew {r : Nat} {w w' : World} (h : Sav r w w') : Sav r w w'.drew := ⟨h.size, h.cell⟩
theorem Sav.alloc {r : Nat} {w w' : World} (h : Sav r w w') (o : Obj) : Sav r w (w'.alloc o) :=
 ⟨Nat.le_trans h.size (by simp), fun b i hb hr => (World.cell?_alloc_lt _ _ ⟨b, i, none⟩ (Nat.lt_of_lt_of_le hb h.size)).trans (h.cell b i hb hr)⟩
theorem Sav.below {r : Nat} {w w1 w2 : World} (h : Sav r w w1) (k : Below w1.heap.size w1 w2) : Sav r w w2 :=
 ⟨Nat.le_trans h.size k.size, fun b i hb hr => (k.cell (p := ⟨b, i, none⟩) (Nat.lt_of_lt_of_le hb h.size)).trans (h.cell b i hb hr)⟩
theorem Sav.set {r : Nat} {w w1 : World} (h : Sav r w w1) (o : Nat) (u : Value) : Sav r w (w1.setCell ⟨r, o, none⟩ u) :=
 ⟨by simpa using h.size, fun b i hb hr => (World.cell?_setCell_other _ _ ⟨b, i, none⟩ _ (fun e => hr (by cases e; rfl))).trans (h.cell b i hb hr)⟩
theorem savc {r : Nat} {w w' : World} {b o : Nat} {v : Value} (h : Sav r w w') (hb : b < w.heap.size) (hr : b ≠ r) (hc : w.cell? ⟨b, o, none⟩ = some v) : w'.cell? ⟨b, o, none⟩ = some v := (h.cell b o hb hr).trans hc
theorem savd {r : Nat} {w w' : World} {b o : Nat} {v : Value} (hb : b < w.heap.size) (hr : b ≠ r) (hc : w.cell? ⟨b, o, none⟩ = some v) (h : Sav r w w' := by (repeat' (first | (with_reducible exact Sav.refl _ _) | (with_reducible assumption) | (with_reducible refine Sav.drew ?_) | (with_reducible refine Sav.alloc ?_ _) | (with_reducible refine Sav.set ?_ _ _)))) : w'.cell? ⟨b, o, none⟩ = some v := savc h hb hr hc
theorem savB {r : Nat} {w w1 w2 : World} (k : Below w1.heap.size w1 w2) (h : Sav r w w1 := by (repeat' (first | (with_reducible exact Sav.refl _ _) | (with_reducible assumption) | (with_reducible refine Sav.drew ?_) | (with_reducible refine Sav.alloc ?_ _) | (with_reducible refine Sav.set ?_ _ _)))) : Sav r w w2 := Sav.below h k
def CutR (N : Nat) (W : World) (ai aw bi bw ci cw : Int) (s6 s7 s8 : Value) (wx : World) : Prop :=
 ∃ g6 g7 g8 : Nat, s6 = .pointer (some ⟨g6, 0, none⟩) ∧ s7 = .pointer (some ⟨g7, 0, none⟩) ∧ s8 = .pointer (some ⟨g8, 0, none⟩) ∧ (N ≤ g6 ∧ g6 < wx.heap.size) ∧ (N ≤ g7 ∧ g7 < wx.heap.size) ∧ (N ≤ g8 ∧ g8 < wx.heap.size) ∧
  wx.cell? ⟨g6, 0, none⟩ = some (.int .i64 ai) ∧ wx.cell? ⟨g6, 1, none⟩ = some (.int .i64 aw) ∧ wx.cell? ⟨g7, 0, none⟩ = some (.int .i64 bi) ∧ wx.cell? ⟨g7, 1, none⟩ = some (.int .i64 bw) ∧ wx.cell? ⟨g8, 0, none⟩ = some (.int .i64 ci) ∧ wx.cell? ⟨g8, 1, none⟩ = some (.int .i64 cw) ∧ Below N W wx
end Go.Proofs.YtlcgimadbpagfaaGreat
namespace Go.Proofs.YtlcgimadbpagfaaGreat
open Go.Lib
open Go.ChangeShapes Go.WideShapes Go.ChangeAt Go.RowKit
set_option linter.unusedVariables false
def prtOk (ns : List ND) (x : ND) : Prop := 0 ≤ pcN x.kind ∧ ptsOk ns.length x ∧ pssOk ns x
instance (ns : List ND) (x : ND) : Decidable (prtOk ns x) := by unfold prtOk; infer_instance
theorem prt_no {ns : List ND} {x : ND} (q : Nat) (hq : q ≤ 2) (h : ¬ (ptOk ns.length x q ∧ psOk ns x q)) : decide (prtOk ns x) = false := by
 refine decide_eq_false fun ⟨_, ⟨h0, h1, h2⟩, ⟨s0, s1, s2⟩⟩ => h ?_
 rcases (by omega : q = 0 ∨ q = 1 ∨ q = 2) with rfl | rfl | rfl
 ·exact ⟨h0, s0⟩
 ·exact ⟨h1, s1⟩
 ·exact ⟨h2, s2⟩
theorem pcI_lt (k : Int) (t : Nat) : (t : Int) < pcI k ↔ (t : Int) < pcN k := by unfold pcI; split <;> omega
def Upto (ns : List ND) (x : ND) (w : World) (i : Value) (wr : World) : Prop := ∃ j : Int, 0 ≤ j ∧ j ≤ 3 ∧ i = .int .i64 j ∧ (∀ t : Nat, (t : Int) < j → ptOk ns.length x t ∧ psOk ns x t) ∧ Below w.heap.size w wr
theorem upto_next {ns : List ND} {x : ND} {j : Int} (q : Nat) (hq : j = q) (h : ∀ t : Nat, (t : Int) < j → ptOk ns.length x t ∧ psOk ns x t) (hj : ptOk ns.length x q ∧ psOk ns x q) : ∀ t : Nat, (t : Int) < j + 1 → ptOk ns.length x t ∧ psOk ns x t := by
 intro t ht
 by_cases e : t = q
 ·subst e; exact hj
 ·exact h t (by omega)
theorem nd_in {B : Nat} {w : World} {a : Option Addr} {len cap : Nat} {ns : List ND} (h : NodesAt B w a len cap ns) (h0 : 0 < len) :
  ∃ b off, a = some ⟨b, off, none⟩ ∧ b < B ∧ ∀ p : Int, 0 ≤ p → p < len → w.cell? ⟨b, off + p.toNat * 9 + 6, none⟩ = some (.int .i64 (sortAt ns p).1) ∧ w.cell? ⟨b, off + p.toNat * 9 + 7, none⟩ = some (.int .i64 (sortAt ns p).2) := by
 obtain ⟨hl, -, -, -, -, h6⟩ := h
 rcases h6 with h6 | ⟨b, off, rfl, hb, hc⟩
 ·omega
 ·refine ⟨b, off, rfl, hb, fun p p0 p1 => ?_⟩
  have hp : p.toNat < ns.length := by omega
  have e : ns.getD p.toNat default = ns[p.toNat] := by simp [List.getD_eq_getElem?_getD, List.getElem?_eq_getElem hp]
  unfold sortAt; rw [e]
  exact ⟨hc p.toNat hp 6 (by omega), hc p.toNat hp 7 (by omega)⟩
set_option maxRecDepth 100000 in
set_option maxHeartbeats 8000000 in
theorem c_partsOk {B : Nat} {a : Option Addr} {len cap : Nat} {ns : List ND} (x : ND) (w : World) (hBw : B ≤ w.heap.size) (h : NodesAt B w a len cap ns) :
  Calls Tryz.prog 199 #[.slice a len cap, .agg x.cells.toArray] w fun e w' => e = .returned (.bool (decide (prtOk ns x))) ∧ Below w.heap.size w w' := by
 have hm : len ≤ maxLen := Nat.le_trans h.2.1 h.2.2.1
 have hlen : ns.length = len := h.1
 have HLEN := hid hlen
 have HN := hid h
 clear h hlen
 have Hm := hid hm
 unfold maxLen at hm
 obtain ⟨k, pa, pb, pc, n, m, si, sw, nm⟩ := x
 simp only [ND.cells] at *
 have ix0 : ∀ w, (Instr.index 219 (.agg #[.int .i64 pa, .int .i64 pb, .int .i64 pc]) (.int .i64 0)).run Tryz.prog w = .ok (.int .i64 pa) w := fun _ => by kernel_rfl
 have ix1 : ∀ w, (Instr.index 219 (.agg #[.int .i64 pa, .int .i64 pb, .int .i64 pc]) (.int .i64 1)).run Tryz.prog w = .ok (.int .i64 pb) w := fun _ => by kernel_rfl
 have ix2 : ∀ w, (Instr.index 219 (.agg #[.int .i64 pa, .int .i64 pb, .int .i64 pc]) (.int .i64 2)).run Tryz.prog w = .ok (.int .i64 pc) w := fun _ => by kernel_rfl
 go_enter Tryz.func199, Tryz.ntmps199
 go_wp2_with (first | (go_at_call 178; refine (c_partCount _ _).mono ?_; rintro e w' ⟨rfl, rfl⟩))
 go_loopw [22] (fun i wr => Upto ns ⟨k, pa, pb, pc, n, m, si, sw, nm⟩ w i wr) (fun i _ => (3 - intOf i).toNat)
 case atStart => exact ⟨0, by omega, by omega, rfl, fun t ht => by omega, by go_grown⟩
 case round =>
  obtain ⟨j, hj0, hj3, rfl, hu, hBr⟩ := hrel
  have HU := hid hu
  have HBr := hid hBr
  clear hu hBr
  rcases (by omega : j = 0 ∨ j = 1 ∨ j = 2 ∨ j = 3) with rfl | rfl | rfl | rfl
  ·by_cases hlt : (0 : Int) < pcI k
   ·have HLT := hid ((pcI_lt k 0).mp hlt)
    have d1 : decide (pcI k ≤ 0) = false := by simp; omega
    by_cases hin : 0 ≤ pa ∧ pa < len
    ·have HIN := hid hin
     obtain ⟨i1, i2⟩ := hin
     have hin' : decide (0 ≤ pa ∧ pa < (len : Int)) = true := decide_eq_true ⟨i1, i2⟩
     obtain ⟨b, off, rfl, hb, hn⟩ := nd_in HN.out (by omega)
     obtain ⟨n6, n7⟩ := hn pa i1 i2
     have c6 := (HBr.out.cell (p := ⟨b, off + pa.toNat * 9 + 6, none⟩) (by show b < _; omega)).trans n6
     have c7 := (HBr.out.cell (p := ⟨b, off + pa.toNat * 9 + 7, none⟩) (by show b < _; omega)).trans n7
     have HS := hid (show srt ns ⟨k, pa, pb, pc, n, m, si, sw, nm⟩ 0 = sortAt ns pa by unfold srt; rw [if_pos HLT.out]; rfl)
     obtain ⟨q1, q2, hq⟩ : ∃ q1 q2, sortAt ns pa = (q1, q2) := ⟨_, _, rfl⟩
     rw [hq] at c6 c7
     have HQ := hid hq
     clear hq n6 n7 hn
     simp only at c6 c7
     by_cases hsk : SOK q1 q2
     ·have hsk' : decide (SOK q1 q2) = true := decide_eq_true hsk
      have HSK : Hid (SOK q1 q2) := hsk
      clear hsk
      go_wp2_with (first | (go_at_call 183; refine (c_placeOk Hm.out _ _).mono ?_; rintro e w' ⟨rfl, rfl⟩))
      refine (c_SortOkI _ _ _).mono ?_
      rintro e w2 ⟨rfl, hB2⟩
      have HB2 := hid (bstep HBr.out (Nat.le_refl _) hB2)
      clear hB2 c6 c7
      go_wp2
      go_roundw
      case rel => exact ⟨0 + 1, by omega, by omega, rfl, upto_next 0 rfl HU.out ⟨by rw [HLEN.out]; exact pt_in HLT.out i1 i2, fun _ => by rw [HS.out, HQ.out]; exact HSK.out⟩, HB2.out⟩
      case measure => simp [intOf]
     ·have hsk' : decide (SOK q1 q2) = false := decide_eq_false hsk
      have HSK : Hid (¬ SOK q1 q2) := hsk
      clear hsk
      go_wp2_with (first | (go_at_call 183; refine (c_placeOk Hm.out _ _).mono ?_; rintro e w' ⟨rfl, rfl⟩))
      refine (c_SortOkI _ _ _).mono ?_
      rintro e w2 ⟨rfl, hB2⟩
      have HB2 := hid (bstep HBr.out (Nat.le_refl _) hB2)
      clear hB2 c6 c7
      go_wp2
      go_ret
      exact ⟨ret_bool (prt_no 0 (by omega) (fun h => HSK.out (by have := h.2 HLT.out; rw [HS.out, HQ.out] at this; exact this))).symm, HB2.out⟩
    ·have hin' : decide (0 ≤ pa ∧ pa < (len : Int)) = false := decide_eq_false hin
     have HIN := hid hin
     clear hin
     go_wp2_with (first | (go_at_call 183; refine (c_placeOk Hm.out _ _).mono ?_; rintro e w' ⟨rfl, rfl⟩))
     go_ret
     exact ⟨ret_bool (prt_no 0 (by omega) (fun h => HIN.out (by have := h.1; unfold ptOk at this; rw [if_pos HLT.out, HLEN.out] at this; exact this))).symm, HBr.out⟩
   ·have d0 : decide ((0 : Int) < pcI k) = false := by simpa using hlt
    have HLT := hid (fun h => hlt ((pcI_lt k 0).mpr h))
    have d1 : pcI k ≤ 0 := by omega
    clear hlt
    by_cases hz : pa = 0
    ·have z1 : (pa != 0) = false := by simpa using hz
     have HZ := hid hz
     clear hz
     go_wp2
     go_roundw
     case rel => exact ⟨0 + 1, by omega, by omega, rfl, upto_next 0 rfl HU.out ⟨pt_zero HLT.out HZ.out, fun h => absurd h HLT.out⟩, HBr.out⟩
     case measure => simp [intOf]
    ·have z1 : (pa != 0) = true := by simpa using hz
     have HZ := hid hz
     clear hz
     go_wp2
     go_ret
     exact ⟨ret_bool (prt_no 0 (by omega) (fun h => pt_nonzero (x := ⟨k, pa, pb, pc, n, m, si, sw, nm⟩) HLT.out HZ.out h.1)).symm, HBr.out⟩
  ·by_cases hlt : (1 : Int) < pcI k
   ·have HLT := hid ((pcI_lt k 1).mp hlt)
    have d1 : decide (pcI k ≤ 1) = false := by simp; omega
    by_cases hin : 0 ≤ pb ∧ pb < len
    ·have HIN := hid hin
     obtain ⟨i1, i2⟩ := hin
     have hin' : decide (0 ≤ pb ∧ pb < (len : Int)) = true := decide_eq_true ⟨i1, i2⟩
     obtain ⟨b, off, rfl, hb, hn⟩ := nd_in HN.out (by omega)
     obtain ⟨n6, n7⟩ := hn pb i1 i2
     have c6 := (HBr.out.cell (p := ⟨b, off + pb.toNat * 9 + 6, none⟩) (by show b < _; omega)).trans n6
     have c7 := (HBr.out.cell (p := ⟨b, off + pb.toNat * 9 + 7, none⟩) (by show b < _; omega)).trans n7
     have HS := hid (show srt ns ⟨k, pa, pb, pc, n, m, si, sw, nm⟩ 1 = sortAt ns pb by unfold srt; rw [if_pos HLT.out]; rfl)
     obtain ⟨q1, q2, hq⟩ : ∃ q1 q2, sortAt ns pb = (q1, q2) := ⟨_, _, rfl⟩
     rw [hq] at c6 c7
     have HQ := hid hq
     clear hq n6 n7 hn
     simp only at c6 c7
     by_cases hsk : SOK q1 q2
     ·have hsk' : decide (SOK q1 q2) = true := decide_eq_true hsk
      have HSK : Hid (SOK q1 q2) := hsk
      clear hsk
      go_wp2_with (first | (go_at_call 183; refine (c_placeOk Hm.out _ _).mono ?_; rintro e w' ⟨rfl, rfl⟩))
      refine (c_SortOkI _ _ _).mono ?_
      rintro e w2 ⟨rfl, hB2⟩
      have HB2 := hid (bstep HBr.out (Nat.le_refl _) hB2)
      clear hB2 c6 c7
      go_wp2
      go_roundw
      case rel => exact ⟨1 + 1, by omega, by omega, rfl, upto_next 1 rfl HU.out ⟨by rw [HLEN.out]; exact pt_in HLT.out i1 i2, fun _ => by rw [HS.out, HQ.out]; exact HSK.out⟩, HB2.out⟩
      case measure => simp [intOf]
     ·have hsk' : decide (SOK q1 q2) = false := decide_eq_false hsk
      have HSK : Hid (¬ SOK q1 q2) := hsk
      clear hsk
      go_wp2_with (first | (go_at_call 183; refine (c_placeOk Hm.out _ _).mono ?_; rintro e w' ⟨rfl, rfl⟩))
      refine (c_SortOkI _ _ _).mono ?_
      rintro e w2 ⟨rfl, hB2⟩
      have HB2 := hid (bstep HBr.out (Nat.le_refl _) hB2)
      clear hB2 c6 c7
      go_wp2
      go_ret
      exact ⟨ret_bool (prt_no 1 (by omega) (fun h => HSK.out (by have := h.2 HLT.out; rw [HS.out, HQ.out] at this; exact this))).symm, HB2.out⟩
    ·have hin' : decide (0 ≤ pb ∧ pb < (len : Int)) = false := decide_eq_false hin
     have HIN := hid hin
     clear hin
     go_wp2_with (first | (go_at_call 183; refine (c_placeOk Hm.out _ _).mono ?_; rintro e w' ⟨rfl, rfl⟩))
     go_ret
     exact ⟨ret_bool (prt_no 1 (by omega) (fun h => HIN.out (by have := h.1; unfold ptOk at this; rw [if_pos HLT.out, HLEN.out] at this; exact this))).symm, HBr.out⟩
   ·have d0 : decide ((1 : Int) < pcI k) = false := by simpa using hlt
    have HLT := hid (fun h => hlt ((pcI_lt k 1).mpr h))
    have d1 : pcI k ≤ 1 := by omega
    clear hlt
    by_cases hz : pb = 0
    ·have z1 : (pb != 0) = false := by simpa using hz
     have HZ := hid hz
     clear hz
     go_wp2
     go_roundw
     case rel => exact ⟨1 + 1, by omega, by omega, rfl, upto_next 1 rfl HU.out ⟨pt_zero HLT.out HZ.out, fun h => absurd h HLT.out⟩, HBr.out⟩
     case measure => simp [intOf]
    ·have z1 : (pb != 0) = true := by simpa using hz
     have HZ := hid hz
     clear hz
     go_wp2
     go_ret
     exact ⟨ret_bool (prt_no 1 (by omega) (fun h => pt_nonzero (x := ⟨k, pa, pb, pc, n, m, si, sw, nm⟩) HLT.out HZ.out h.1)).symm, HBr.out⟩
  ·by_cases hlt : (2 : Int) < pcI k
   ·have HLT := hid ((pcI_lt k 2).mp hlt)
    have d1 : decide (pcI k ≤ 2) = false := by simp; omega
    by_cases hin : 0 ≤ pc ∧ pc < len
    ·have HIN := hid hin
     obtain ⟨i1, i2⟩ := hin
     have hin' : decide (0 ≤ pc ∧ pc < (len : Int)) = true := decide_eq_true ⟨i1, i2⟩
     obtain ⟨b, off, rfl, hb, hn⟩ := nd_in HN.out (by omega)
     obtain ⟨n6, n7⟩ := hn pc i1 i2
     have c6 := (HBr.out.cell (p := ⟨b, off + pc.toNat * 9 + 6, none⟩) (by show b < _; omega)).trans n6
     have c7 := (HBr.out.cell (p := ⟨b, off + pc.toNat * 9 + 7, none⟩) (by show b < _; omega)).trans n7
     have HS := hid (show srt ns ⟨k, pa, pb, pc, n, m, si, sw, nm⟩ 2 = sortAt ns pc by unfold srt; rw [if_pos HLT.out]; rfl)
     obtain ⟨q1, q2, hq⟩ : ∃ q1 q2, sortAt ns pc = (q1, q2) := ⟨_, _, rfl⟩
     rw [hq] at c6 c7
     have HQ := hid hq
     clear hq n6 n7 hn
     simp only at c6 c7
     by_cases hsk : SOK q1 q2
     ·have hsk' : decide (SOK q1 q2) = true := decide_eq_true hsk
      have HSK : Hid (SOK q1 q2) := hsk
      clear hsk
      go_wp2_with (first | (go_at_call 183; refine (c_placeOk Hm.out _ _).mono ?_; rintro e w' ⟨rfl, rfl⟩))
      refine (c_SortOkI _ _ _).mono ?_
      rintro e w2 ⟨rfl, hB2⟩
      have HB2 := hid (bstep HBr.out (Nat.le_refl _) hB2)
      clear hB2 c6 c7
      go_wp2
      go_roundw
      case rel => exact ⟨2 + 1, by omega, by omega, rfl, upto_next 2 rfl HU.out ⟨by rw [HLEN.out]; exact pt_in HLT.out i1 i2, fun _ => by rw [HS.out, HQ.out]; exact HSK.out⟩, HB2.out⟩
      case measure => simp [intOf]
     ·have hsk' : decide (SOK q1 q2) = false := decide_eq_false hsk
      have HSK : Hid (¬ SOK q1 q2) := hsk
      clear hsk
      go_wp2_with (first | (go_at_call 183; refine (c_placeOk Hm.out _ _).mono ?_; rintro e w' ⟨rfl, rfl⟩))
      refine (c_SortOkI _ _ _).mono ?_
      rintro e w2 ⟨rfl, hB2⟩
      have HB2 := hid (bstep HBr.out (Nat.le_refl _) hB2)
      clear hB2 c6 c7
      go_wp2
      go_ret
      exact ⟨ret_bool (prt_no 2 (by omega) (fun h => HSK.out (by have := h.2 HLT.out; rw [HS.out, HQ.out] at this; exact this))).symm, HB2.out⟩
    ·have hin' : decide (0 ≤ pc ∧ pc < (len : Int)) = false := decide_eq_false hin
     have HIN := hid hin
     clear hin
     go_wp2_with (first | (go_at_call 183; refine (c_placeOk Hm.out _ _).mono ?_; rintro e w' ⟨rfl, rfl⟩))
     go_ret
     exact ⟨ret_bool (prt_no 2 (by omega) (fun h => HIN.out (by have := h.1; unfold ptOk at this; rw [if_pos HLT.out, HLEN.out] at this; exact this))).symm, HBr.out⟩
   ·have d0 : decide ((2 : Int) < pcI k) = false := by simpa using hlt
    have HLT := hid (fun h => hlt ((pcI_lt k 2).mpr h))
    have d1 : pcI k ≤ 2 := by omega
    clear hlt
    by_cases hz : pc = 0
    ·have z1 : (pc != 0) = false := by simpa using hz
     have HZ := hid hz
     clear hz
     go_wp2
     go_roundw
     case rel => exact ⟨2 + 1, by omega, by omega, rfl, upto_next 2 rfl HU.out ⟨pt_zero HLT.out HZ.out, fun h => absurd h HLT.out⟩, HBr.out⟩
     case measure => simp [intOf]
    ·have z1 : (pc != 0) = true := by simpa using hz
     have HZ := hid hz
     clear hz
     go_wp2
     go_ret
     exact ⟨ret_bool (prt_no 2 (by omega) (fun h => pt_nonzero (x := ⟨k, pa, pb, pc, n, m, si, sw, nm⟩) HLT.out HZ.out h.1)).symm, HBr.out⟩
  ·go_wp2
   go_ret
   refine ⟨ret_bool ?_, HBr.out⟩
   apply dec_iff
   have h0 := HU.out 0 (by omega)
   have h1 := HU.out 1 (by omega)
   have h2 := HU.out 2 (by omega)
   exact ⟨fun h => ⟨h, ⟨h0.1, h1.1, h2.1⟩, ⟨h0.2, h1.2, h2.2⟩⟩, fun h => h.1⟩
end Go.Proofs.YtlcgimadbpagfaaGreat
namespace Go.Proofs.YtlcgimadbpagfaaGreat
open Go.Lib
open Go.ChangeShapes Go.WideShapes Go.ChangeAt Go.RowKit
set_option linter.unusedVariables false
def PlacesAt (x : ND) (w : World) (e : Ending) (w' : World) : Prop :=
 ∃ g : Nat, e = .returned (.slice (some ⟨g, 0, none⟩) (pcI x.kind).toNat 3) ∧ w.heap.size ≤ g ∧ g < w'.heap.size ∧ (∀ t, t < 3 → w'.cell? ⟨g, t, none⟩ = some (.int .i64 (partAt x t))) ∧ Below w.heap.size w w'
theorem pcI_cases (k : Int) : pcI k = 0 ∨ pcI k = 1 ∨ pcI k = 2 ∨ pcI k = 3 := by unfold pcI; have := pcN_cases k; split <;> omega
theorem c_nodeParts (x : ND) (w : World) :
  Calls Tryz.prog 136 #[.agg x.cells.toArray] w (PlacesAt x w) := by
 have hc := pcI_cases x.kind
 have hc0 : 0 ≤ pcI x.kind := by omega
 have hc3 : pcI x.kind ≤ 3 := by omega
 have HP := hid (show ∀ t, t < 3 → partAt x t = [x.a, x.b, x.c].getD t 0 by intro t ht; rcases (by omega : t = 0 ∨ t = 1 ∨ t = 2) with rfl | rfl | rfl <;> rfl)
 obtain ⟨k, pa, pb, pc, n, m, si, sw, nm⟩ := x
 simp only [ND.cells] at *
 clear hc
 go_enter Tryz.func136, Tryz.ntmps136
 go_wp2_with (first | (go_at_call 178; refine (c_partCount _ _).mono ?_; rintro e w' ⟨rfl, rfl⟩))
 go_ret
 refine ⟨w.heap.size + 1, rfl, by omega, by simp, ?_, by go_grown⟩
 intro t ht
 rcases (by omega : t = 0 ∨ t = 1 ∨ t = 2) with rfl | rfl | rfl <;> simp [partAt]
end Go.Proofs.YtlcgimadbpagfaaGreat
namespace Go.Proofs.YtlcgimadbpagfaaGreat
open Go.Lib
open Go.ChangeShapes Go.WideShapes Go.ChangeAt Go.RowKit
set_option linter.unusedVariables false
def z6 : Array Value := #[.int .i64 0, .int .i64 0, .int .i64 0, .int .i64 0, .int .i64 0, .int .i64 0]
theorem z6_get {i : Nat} (h : i < 6) : z6[i]? = some (.int .i64 0) := by
 rcases (by omega : i = 0 ∨ i = 1 ∨ i = 2 ∨ i = 3 ∨ i = 4 ∨ i = 5) with rfl | rfl | rfl | rfl | rfl | rfl <;> rfl
theorem cellMid6 (w : World) (A : Obj) (t : TypeId) (C : Obj) (i : Nat) (h : i < 6) : (((w.alloc A).alloc (.cells z6 t)).alloc C).cell? ⟨w.heap.size + 1, i, none⟩ = some (.int .i64 0) :=
 (cell_of_row _ _ i z6 t (0, 0) (heap_alloc2_at w A _ C)).trans (z6_get h)
theorem frozenMid (w : World) (A : Obj) (cs : Array Value) (t : TypeId) (C : Obj) (i : Nat) : (((w.alloc A).alloc (.cells cs t)).alloc C).frozen? ⟨w.heap.size + 1, i, none⟩ = false := by
 have h := heap_alloc2_at w A (.cells cs t) C
 simp only [World.frozen?]
 rw [h]
 simp
theorem heap3_at (w : World) (A B C : Obj) : (((w.alloc A).alloc B).alloc C).heap[w.heap.size + 1 + 1]? = some C := by
 have e : ((w.alloc A).alloc B).heap.size = w.heap.size + 1 + 1 := by simp
 rw [← e]; exact heap_alloc_new _ _
theorem cellLast6 (w : World) (A B : Obj) (t : TypeId) (i : Nat) (h : i < 6) : (((w.alloc A).alloc B).alloc (.cells z6 t)).cell? ⟨w.heap.size + 1 + 1, i, none⟩ = some (.int .i64 0) :=
 (cell_of_row _ _ i z6 t (0, 0) (heap3_at w A B _)).trans (z6_get h)
theorem frozenLast (w : World) (A B : Obj) (cs : Array Value) (t : TypeId) (i : Nat) : (((w.alloc A).alloc B).alloc (.cells cs t)).frozen? ⟨w.heap.size + 1 + 1, i, none⟩ = false := by
 have h := heap3_at w A B (.cells cs t)
 simp only [World.frozen?]
 rw [h]
 simp
def sorts3 (ns : List ND) (x : ND) : Value := .agg #[.int .i64 (srt ns x 0).1, .int .i64 (srt ns x 0).2, .int .i64 (srt ns x 1).1, .int .i64 (srt ns x 1).2, .int .i64 (srt ns x 2).1, .int .i64 (srt ns x 2).2]
set_option maxRecDepth 100000 in
set_option maxHeartbeats 40000000 in
theorem c_partSorts0 {B : Nat} {a : Option Addr} {len cap : Nat} {ns : List ND} (x : ND) (w : World) (hBw : B ≤ w.heap.size) (h : NodesAt B w a len cap ns) (hpt : ptsOk len x) (hp : pcN x.kind = 0) :
  Calls Tryz.prog 203 #[.slice a len cap, .agg x.cells.toArray] w fun e w' => e = .returned (sorts3 ns x) ∧ Below w.heap.size w w' := by
 have hpi : pcI x.kind = 0 := by unfold pcI; rw [hp]; rfl
 have HS0 := hid (show srt ns x 0 = (0, 0) by unfold srt; rw [if_neg (by omega)])
 have HS1 := hid (show srt ns x 1 = (0, 0) by unfold srt; rw [if_neg (by omega)])
 have HS2 := hid (show srt ns x 2 = (0, 0) by unfold srt; rw [if_neg (by omega)])
 clear h hpt
 obtain ⟨k, pa, pb, pc, n, m, si, sw, nm⟩ := x
 simp only [ND.cells] at *
 go_enter Tryz.func203, Tryz.ntmps203
 go_wp2_with fail
 refine (c_nodeParts ⟨k, pa, pb, pc, n, m, si, sw, nm⟩ _).mono ?_
 rintro e w1 ⟨g, rfl, hg, hglt, hgc, hB1⟩
 have G0 : w1.cell? ⟨g, 0, none⟩ = some (.int .i64 pa) := hgc 0 (by omega)
 have G1 : w1.cell? ⟨g, 1, none⟩ = some (.int .i64 pb) := hgc 1 (by omega)
 have G2 : w1.cell? ⟨g, 2, none⟩ = some (.int .i64 pc) := hgc 2 (by omega)
 have hg3 : w.heap.size + 3 ≤ g := by simpa using hg
 have hsz : w.heap.size + 3 ≤ w1.heap.size := by have := hB1.size; simp at this; omega
 have hsz2 : w.heap.size + 1 + 1 < w1.heap.size := by omega
 have hsz1 : w.heap.size + 1 < w1.heap.size := by omega
 have eg : ¬ g = w.heap.size + 1 + 1 := by omega
 have eg' : ¬ w.heap.size + 1 + 1 = g := by omega
 have X0 : ∀ i, i < 6 → w1.cell? ⟨w.heap.size + 1, i, none⟩ = some (.int .i64 0) ∧ w1.frozen? ⟨w.heap.size + 1, i, none⟩ = false := fun i hi => ⟨(hB1.cell (p := ⟨w.heap.size + 1, i, none⟩) (by simp)).trans (cellMid6 _ _ _ _ i hi), (hB1.frozen (p := ⟨w.heap.size + 1, i, none⟩) (by simp)).trans (frozenMid _ _ _ _ _ i)⟩
 have Y0 : ∀ i, i < 6 → w1.cell? ⟨w.heap.size + 1 + 1, i, none⟩ = some (.int .i64 0) ∧ w1.frozen? ⟨w.heap.size + 1 + 1, i, none⟩ = false := fun i hi => ⟨(hB1.cell (p := ⟨w.heap.size + 1 + 1, i, none⟩) (by simp)).trans (cellLast6 _ _ _ _ i hi), (hB1.frozen (p := ⟨w.heap.size + 1 + 1, i, none⟩) (by simp)).trans (frozenLast _ _ _ _ _ i)⟩
 obtain ⟨xa0, xf0⟩ := X0 0 (by omega)
 obtain ⟨ya0, yf0⟩ := Y0 0 (by omega)
 obtain ⟨xa1, xf1⟩ := X0 1 (by omega)
 obtain ⟨ya1, yf1⟩ := Y0 1 (by omega)
 obtain ⟨xa2, xf2⟩ := X0 2 (by omega)
 obtain ⟨ya2, yf2⟩ := Y0 2 (by omega)
 obtain ⟨xa3, xf3⟩ := X0 3 (by omega)
 obtain ⟨ya3, yf3⟩ := Y0 3 (by omega)
 obtain ⟨xa4, xf4⟩ := X0 4 (by omega)
 obtain ⟨ya4, yf4⟩ := Y0 4 (by omega)
 obtain ⟨xa5, xf5⟩ := X0 5 (by omega)
 obtain ⟨ya5, yf5⟩ := Y0 5 (by omega)
 clear X0 Y0
 have hbw := hid (bstep (show Below w.heap.size w _ by go_grown) (Nat.le_refl _) hB1)
 clear hgc hB1 hg hg3 hglt hsz
 go_wp2
 go_rounds 4
 refine bodyPost_ret (v := .agg #[.int .i64 0, .int .i64 0, .int .i64 0, .int .i64 0, .int .i64 0, .int .i64 0]) (by simp [results, Tryz.results203, go_sem, xa0, xa1, xa2, xa3, xa4, xa5]) rfl ⟨?_, ?_⟩
 ·unfold sorts3; rw [HS0.out, HS1.out, HS2.out]
  (try rfl)
 ·have hbw' := hbw.out
  clear hbw
  go_grown
set_option maxRecDepth 100000 in
set_option maxHeartbeats 40000000 in
theorem c_partSorts1 {B : Nat} {a : Option Addr} {len cap : Nat} {ns : List ND} (x : ND) (w : World) (hBw : B ≤ w.heap.size) (h : NodesAt B w a len cap ns) (hpt : ptsOk len x) (hp : pcN x.kind = 1) :
  Calls Tryz.prog 203 #[.slice a len cap, .agg x.cells.toArray] w fun e w' => e = .returned (sorts3 ns x) ∧ Below w.heap.size w w' := by
 have hpi : pcI x.kind = 1 := by unfold pcI; rw [hp]; rfl
 have HS0 := hid (show srt ns x 0 = sortAt ns (partAt x 0) by unfold srt; rw [if_pos (by omega)])
 have HS1 := hid (show srt ns x 1 = (0, 0) by unfold srt; rw [if_neg (by omega)])
 have HS2 := hid (show srt ns x 2 = (0, 0) by unfold srt; rw [if_neg (by omega)])
 have hi0 : 0 ≤ partAt x 0 ∧ partAt x 0 < len := by have := hpt.1; unfold ptOk at this; rw [if_pos (by omega)] at this; exact this
 obtain ⟨b, off, rfl, hb, hn⟩ := nd_in h (by omega)
 obtain ⟨m0, o0⟩ := hn _ hi0.1 hi0.2
 clear h hpt
 clear hn
 obtain ⟨k, pa, pb, pc, n, m, si, sw, nm⟩ := x
 simp only [ND.cells] at *
 have hh0 : 0 ≤ pa ∧ pa < len := hi0
 obtain ⟨ha0, hb0⟩ := hh0
 have mm0 : w.cell? ⟨b, off + pa.toNat * 9 + 6, none⟩ = some (.int .i64 (sortAt ns pa).1) := m0
 have oo0 : w.cell? ⟨b, off + pa.toNat * 9 + 7, none⟩ = some (.int .i64 (sortAt ns pa).2) := o0
 generalize hq0 : sortAt ns pa = q0 at mm0 oo0
 obtain ⟨qi0, qw0⟩ := q0
 have HQ0 := hid hq0
 clear hq0 m0 o0 hi0
 simp only at mm0 oo0
 go_enter Tryz.func203, Tryz.ntmps203
 go_wp2_with fail
 refine (c_nodeParts ⟨k, pa, pb, pc, n, m, si, sw, nm⟩ _).mono ?_
 rintro e w1 ⟨g, rfl, hg, hglt, hgc, hB1⟩
 have G0 : w1.cell? ⟨g, 0, none⟩ = some (.int .i64 pa) := hgc 0 (by omega)
 have G1 : w1.cell? ⟨g, 1, none⟩ = some (.int .i64 pb) := hgc 1 (by omega)
 have G2 : w1.cell? ⟨g, 2, none⟩ = some (.int .i64 pc) := hgc 2 (by omega)
 have hg3 : w.heap.size + 3 ≤ g := by simpa using hg
 have hsz : w.heap.size + 3 ≤ w1.heap.size := by have := hB1.size; simp at this; omega
 have hsz2 : w.heap.size + 1 + 1 < w1.heap.size := by omega
 have hsz1 : w.heap.size + 1 < w1.heap.size := by omega
 have eg : ¬ g = w.heap.size + 1 + 1 := by omega
 have eg' : ¬ w.heap.size + 1 + 1 = g := by omega
 have X0 : ∀ i, i < 6 → w1.cell? ⟨w.heap.size + 1, i, none⟩ = some (.int .i64 0) ∧ w1.frozen? ⟨w.heap.size + 1, i, none⟩ = false := fun i hi => ⟨(hB1.cell (p := ⟨w.heap.size + 1, i, none⟩) (by simp)).trans (cellMid6 _ _ _ _ i hi), (hB1.frozen (p := ⟨w.heap.size + 1, i, none⟩) (by simp)).trans (frozenMid _ _ _ _ _ i)⟩
 have Y0 : ∀ i, i < 6 → w1.cell? ⟨w.heap.size + 1 + 1, i, none⟩ = some (.int .i64 0) ∧ w1.frozen? ⟨w.heap.size + 1 + 1, i, none⟩ = false := fun i hi => ⟨(hB1.cell (p := ⟨w.heap.size + 1 + 1, i, none⟩) (by simp)).trans (cellLast6 _ _ _ _ i hi), (hB1.frozen (p := ⟨w.heap.size + 1 + 1, i, none⟩) (by simp)).trans (frozenLast _ _ _ _ _ i)⟩
 obtain ⟨xa0, xf0⟩ := X0 0 (by omega)
 obtain ⟨ya0, yf0⟩ := Y0 0 (by omega)
 obtain ⟨xa1, xf1⟩ := X0 1 (by omega)
 obtain ⟨ya1, yf1⟩ := Y0 1 (by omega)
 obtain ⟨xa2, xf2⟩ := X0 2 (by omega)
 obtain ⟨ya2, yf2⟩ := Y0 2 (by omega)
 obtain ⟨xa3, xf3⟩ := X0 3 (by omega)
 obtain ⟨ya3, yf3⟩ := Y0 3 (by omega)
 obtain ⟨xa4, xf4⟩ := X0 4 (by omega)
 obtain ⟨ya4, yf4⟩ := Y0 4 (by omega)
 obtain ⟨xa5, xf5⟩ := X0 5 (by omega)
 obtain ⟨ya5, yf5⟩ := Y0 5 (by omega)
 clear X0 Y0
 have hbw := hid (bstep (show Below w.heap.size w _ by go_grown) (Nat.le_refl _) hB1)
 have eb : ¬ b = w.heap.size + 1 + 1 := by omega
 have eb' : ¬ w.heap.size + 1 + 1 = b := by omega
 have M0 := (hbw.out.cell (p := ⟨b, off + pa.toNat * 9 + 6, none⟩) (by show b < _; omega)).trans mm0
 have O0 := (hbw.out.cell (p := ⟨b, off + pa.toNat * 9 + 7, none⟩) (by show b < _; omega)).trans oo0
 clear mm0 oo0
 clear hgc hB1 hg hg3 hglt hsz
 go_wp2
 go_rounds 4
 refine bodyPost_ret (v := .agg #[.int .i64 qi0, .int .i64 qw0, .int .i64 0, .int .i64 0, .int .i64 0, .int .i64 0]) (by simp [results, Tryz.results203, go_sem, xa0, xa1, xa2, xa3, xa4, xa5]) rfl ⟨?_, ?_⟩
 ·unfold sorts3; rw [HS0.out, HS1.out, HS2.out]
  rw [show partAt ⟨k, pa, pb, pc, n, m, si, sw, nm⟩ 0 = pa from rfl, HQ0.out]
 ·have hbw' := hbw.out
  clear hbw
  go_grown
set_option maxRecDepth 100000 in
set_option maxHeartbeats 40000000 in
theorem c_partSorts2 {B : Nat} {a : Option Addr} {len cap : Nat} {ns : List ND} (x : ND) (w : World) (hBw : B ≤ w.heap.size) (h : NodesAt B w a len cap ns) (hpt : ptsOk len x) (hp : pcN x.kind = 2) :
  Calls Tryz.prog 203 #[.slice a len cap, .agg x.cells.toArray] w fun e w' => e = .returned (sorts3 ns x) ∧ Below w.heap.size w w' := by
 have hpi : pcI x.kind = 2 := by unfold pcI; rw [hp]; rfl
 have HS0 := hid (show srt ns x 0 = sortAt ns (partAt x 0) by unfold srt; rw [if_pos (by omega)])
 have HS1 := hid (show srt ns x 1 = sortAt ns (partAt x 1) by unfold srt; rw [if_pos (by omega)])
 have HS2 := hid (show srt ns x 2 = (0, 0) by unfold srt; rw [if_neg (by omega)])
 have hi0 : 0 ≤ partAt x 0 ∧ partAt x 0 < len := by have := hpt.1; unfold ptOk at this; rw [if_pos (by omega)] at this; exact this
 have hi1 : 0 ≤ partAt x 1 ∧ partAt x 1 < len := by have := hpt.2.1; unfold ptOk at this; rw [if_pos (by omega)] at this; exact this
 obtain ⟨b, off, rfl, hb, hn⟩ := nd_in h (by omega)
 obtain ⟨m0, o0⟩ := hn _ hi0.1 hi0.2
 obtain ⟨m1, o1⟩ := hn _ hi1.1 hi1.2
 clear h hpt
 clear hn
 obtain ⟨k, pa, pb, pc, n, m, si, sw, nm⟩ := x
 simp only [ND.cells] at *
 have hh0 : 0 ≤ pa ∧ pa < len := hi0
 obtain ⟨ha0, hb0⟩ := hh0
 have mm0 : w.cell? ⟨b, off + pa.toNat * 9 + 6, none⟩ = some (.int .i64 (sortAt ns pa).1) := m0
 have oo0 : w.cell? ⟨b, off + pa.toNat * 9 + 7, none⟩ = some (.int .i64 (sortAt ns pa).2) := o0
 generalize hq0 : sortAt ns pa = q0 at mm0 oo0
 obtain ⟨qi0, qw0⟩ := q0
 have HQ0 := hid hq0
 clear hq0 m0 o0 hi0
 simp only at mm0 oo0
 have hh1 : 0 ≤ pb ∧ pb < len := hi1
 obtain ⟨ha1, hb1⟩ := hh1
 have mm1 : w.cell? ⟨b, off + pb.toNat * 9 + 6, none⟩ = some (.int .i64 (sortAt ns pb).1) := m1
 have oo1 : w.cell? ⟨b, off + pb.toNat * 9 + 7, none⟩ = some (.int .i64 (sortAt ns pb).2) := o1
 generalize hq1 : sortAt ns pb = q1 at mm1 oo1
 obtain ⟨qi1, qw1⟩ := q1
 have HQ1 := hid hq1
 clear hq1 m1 o1 hi1
 simp only at mm1 oo1
 go_enter Tryz.func203, Tryz.ntmps203
 go_wp2_with fail
 refine (c_nodeParts ⟨k, pa, pb, pc, n, m, si, sw, nm⟩ _).mono ?_
 rintro e w1 ⟨g, rfl, hg, hglt, hgc, hB1⟩
 have G0 : w1.cell? ⟨g, 0, none⟩ = some (.int .i64 pa) := hgc 0 (by omega)
 have G1 : w1.cell? ⟨g, 1, none⟩ = some (.int .i64 pb) := hgc 1 (by omega)
 have G2 : w1.cell? ⟨g, 2, none⟩ = some (.int .i64 pc) := hgc 2 (by omega)
 have hg3 : w.heap.size + 3 ≤ g := by simpa using hg
 have hsz : w.heap.size + 3 ≤ w1.heap.size := by have := hB1.size; simp at this; omega
 have hsz2 : w.heap.size + 1 + 1 < w1.heap.size := by omega
 have hsz1 : w.heap.size + 1 < w1.heap.size := by omega
 have eg : ¬ g = w.heap.size + 1 + 1 := by omega
 have eg' : ¬ w.heap.size + 1 + 1 = g := by omega
 have X0 : ∀ i, i < 6 → w1.cell? ⟨w.heap.size + 1, i, none⟩ = some (.int .i64 0) ∧ w1.frozen? ⟨w.heap.size + 1, i, none⟩ = false := fun i hi => ⟨(hB1.cell (p := ⟨w.heap.size + 1, i, none⟩) (by simp)).trans (cellMid6 _ _ _ _ i hi), (hB1.frozen (p := ⟨w.heap.size + 1, i, none⟩) (by simp)).trans (frozenMid _ _ _ _ _ i)⟩
 have Y0 : ∀ i, i < 6 → w1.cell? ⟨w.heap.size + 1 + 1, i, none⟩ = some (.int .i64 0) ∧ w1.frozen? ⟨w.heap.size + 1 + 1, i, none⟩ = false := fun i hi => ⟨(hB1.cell (p := ⟨w.heap.size + 1 + 1, i, none⟩) (by simp)).trans (cellLast6 _ _ _ _ i hi), (hB1.frozen (p := ⟨w.heap.size + 1 + 1, i, none⟩) (by simp)).trans (frozenLast _ _ _ _ _ i)⟩
 obtain ⟨xa0, xf0⟩ := X0 0 (by omega)
 obtain ⟨ya0, yf0⟩ := Y0 0 (by omega)
 obtain ⟨xa1, xf1⟩ := X0 1 (by omega)
 obtain ⟨ya1, yf1⟩ := Y0 1 (by omega)
 obtain ⟨xa2, xf2⟩ := X0 2 (by omega)
 obtain ⟨ya2, yf2⟩ := Y0 2 (by omega)
 obtain ⟨xa3, xf3⟩ := X0 3 (by omega)
 obtain ⟨ya3, yf3⟩ := Y0 3 (by omega)
 obtain ⟨xa4, xf4⟩ := X0 4 (by omega)
 obtain ⟨ya4, yf4⟩ := Y0 4 (by omega)
 obtain ⟨xa5, xf5⟩ := X0 5 (by omega)
 obtain ⟨ya5, yf5⟩ := Y0 5 (by omega)
 clear X0 Y0
 have hbw := hid (bstep (show Below w.heap.size w _ by go_grown) (Nat.le_refl _) hB1)
 have eb : ¬ b = w.heap.size + 1 + 1 := by omega
 have eb' : ¬ w.heap.size + 1 + 1 = b := by omega
 have M0 := (hbw.out.cell (p := ⟨b, off + pa.toNat * 9 + 6, none⟩) (by show b < _; omega)).trans mm0
 have O0 := (hbw.out.cell (p := ⟨b, off + pa.toNat * 9 + 7, none⟩) (by show b < _; omega)).trans oo0
 clear mm0 oo0
 have M1 := (hbw.out.cell (p := ⟨b, off + pb.toNat * 9 + 6, none⟩) (by show b < _; omega)).trans mm1
 have O1 := (hbw.out.cell (p := ⟨b, off + pb.toNat * 9 + 7, none⟩) (by show b < _; omega)).trans oo1
 clear mm1 oo1
 clear hgc hB1 hg hg3 hglt hsz
 go_wp2
 go_rounds 4
 refine bodyPost_ret (v := .agg #[.int .i64 qi0, .int .i64 qw0, .int .i64 qi1, .int .i64 qw1, .int .i64 0, .int .i64 0]) (by simp [results, Tryz.results203, go_sem, xa0, xa1, xa2, xa3, xa4, xa5]) rfl ⟨?_, ?_⟩
 ·unfold sorts3; rw [HS0.out, HS1.out, HS2.out]
  rw [show partAt ⟨k, pa, pb, pc, n, m, si, sw, nm⟩ 0 = pa from rfl, HQ0.out]; rw [show partAt ⟨k, pa, pb, pc, n, m, si, sw, nm⟩ 1 = pb from rfl, HQ1.out]
 ·have hbw' := hbw.out
  clear hbw
  go_grown
set_option maxRecDepth 100000 in
set_option maxHeartbeats 40000000 in
theorem c_partSorts3 {B : Nat} {a : Option Addr} {len cap : Nat} {ns : List ND} (x : ND) (w : World) (hBw : B ≤ w.heap.size) (h : NodesAt B w a len cap ns) (hpt : ptsOk len x) (hp : pcN x.kind = 3) :
  Calls Tryz.prog 203 #[.slice a len cap, .agg x.cells.toArray] w fun e w' => e = .returned (sorts3 ns x) ∧ Below w.heap.size w w' := by
 have hpi : pcI x.kind = 3 := by unfold pcI; rw [hp]; rfl
 have HS0 := hid (show srt ns x 0 = sortAt ns (partAt x 0) by unfold srt; rw [if_pos (by omega)])
 have HS1 := hid (show srt ns x 1 = sortAt ns (partAt x 1) by unfold srt; rw [if_pos (by omega)])
 have HS2 := hid (show srt ns x 2 = sortAt ns (partAt x 2) by unfold srt; rw [if_pos (by omega)])
 have hi0 : 0 ≤ partAt x 0 ∧ partAt x 0 < len := by have := hpt.1; unfold ptOk at this; rw [if_pos (by omega)] at this; exact this
 have hi1 : 0 ≤ partAt x 1 ∧ partAt x 1 < len := by have := hpt.2.1; unfold ptOk at this; rw [if_pos (by omega)] at this; exact this
 have hi2 : 0 ≤ partAt x 2 ∧ partAt x 2 < len := by have := hpt.2.2; unfold ptOk at this; rw [if_pos (by omega)] at this; exact this
 obtain ⟨b, off, rfl, hb, hn⟩ := nd_in h (by omega)
 obtain ⟨m0, o0⟩ := hn _ hi0.1 hi0.2
 obtain ⟨m1, o1⟩ := hn _ hi1.1 hi1.2
 obtain ⟨m2, o2⟩ := hn _ hi2.1 hi2.2
 clear h hpt
 clear hn
 obtain ⟨k, pa, pb, pc, n, m, si, sw, nm⟩ := x
 simp only [ND.cells] at *
 have hh0 : 0 ≤ pa ∧ pa < len := hi0
 obtain ⟨ha0, hb0⟩ := hh0
 have mm0 : w.cell? ⟨b, off + pa.toNat * 9 + 6, none⟩ = some (.int .i64 (sortAt ns pa).1) := m0
 have oo0 : w.cell? ⟨b, off + pa.toNat * 9 + 7, none⟩ = some (.int .i64 (sortAt ns pa).2) := o0
 generalize hq0 : sortAt ns pa = q0 at mm0 oo0
 obtain ⟨qi0, qw0⟩ := q0
 have HQ0 := hid hq0
 clear hq0 m0 o0 hi0
 simp only at mm0 oo0
 have hh1 : 0 ≤ pb ∧ pb < len := hi1
 obtain ⟨ha1, hb1⟩ := hh1
 have mm1 : w.cell? ⟨b, off + pb.toNat * 9 + 6, none⟩ = some (.int .i64 (sortAt ns pb).1) := m1
 have oo1 : w.cell? ⟨b, off + pb.toNat * 9 + 7, none⟩ = some (.int .i64 (sortAt ns pb).2) := o1
 generalize hq1 : sortAt ns pb = q1 at mm1 oo1
 obtain ⟨qi1, qw1⟩ := q1
 have HQ1 := hid hq1
 clear hq1 m1 o1 hi1
 simp only at mm1 oo1
 have hh2 : 0 ≤ pc ∧ pc < len := hi2
 obtain ⟨ha2, hb2⟩ := hh2
 have mm2 : w.cell? ⟨b, off + pc.toNat * 9 + 6, none⟩ = some (.int .i64 (sortAt ns pc).1) := m2
 have oo2 : w.cell? ⟨b, off + pc.toNat * 9 + 7, none⟩ = some (.int .i64 (sortAt ns pc).2) := o2
 generalize hq2 : sortAt ns pc = q2 at mm2 oo2
 obtain ⟨qi2, qw2⟩ := q2
 have HQ2 := hid hq2
 clear hq2 m2 o2 hi2
 simp only at mm2 oo2
 go_enter Tryz.func203, Tryz.ntmps203
 go_wp2_with fail
 refine (c_nodeParts ⟨k, pa, pb, pc, n, m, si, sw, nm⟩ _).mono ?_
 rintro e w1 ⟨g, rfl, hg, hglt, hgc, hB1⟩
 have G0 : w1.cell? ⟨g, 0, none⟩ = some (.int .i64 pa) := hgc 0 (by omega)
 have G1 : w1.cell? ⟨g, 1, none⟩ = some (.int .i64 pb) := hgc 1 (by omega)
 have G2 : w1.cell? ⟨g, 2, none⟩ = some (.int .i64 pc) := hgc 2 (by omega)
 have hg3 : w.heap.size + 3 ≤ g := by simpa using hg
 have hsz : w.heap.size + 3 ≤ w1.heap.size := by have := hB1.size; simp at this; omega
 have hsz2 : w.heap.size + 1 + 1 < w1.heap.size := by omega
 have hsz1 : w.heap.size + 1 < w1.heap.size := by omega
 have eg : ¬ g = w.heap.size + 1 + 1 := by omega
 have eg' : ¬ w.heap.size + 1 + 1 = g := by omega
 have X0 : ∀ i, i < 6 → w1.cell? ⟨w.heap.size + 1, i, none⟩ = some (.int .i64 0) ∧ w1.frozen? ⟨w.heap.size + 1, i, none⟩ = false := fun i hi => ⟨(hB1.cell (p := ⟨w.heap.size + 1, i, none⟩) (by simp)).trans (cellMid6 _ _ _ _ i hi), (hB1.frozen (p := ⟨w.heap.size + 1, i, none⟩) (by simp)).trans (frozenMid _ _ _ _ _ i)⟩
 have Y0 : ∀ i, i < 6 → w1.cell? ⟨w.heap.size + 1 + 1, i, none⟩ = some (.int .i64 0) ∧ w1.frozen? ⟨w.heap.size + 1 + 1, i, none⟩ = false := fun i hi => ⟨(hB1.cell (p := ⟨w.heap.size + 1 + 1, i, none⟩) (by simp)).trans (cellLast6 _ _ _ _ i hi), (hB1.frozen (p := ⟨w.heap.size + 1 + 1, i, none⟩) (by simp)).trans (frozenLast _ _ _ _ _ i)⟩
 obtain ⟨xa0, xf0⟩ := X0 0 (by omega)
 obtain ⟨ya0, yf0⟩ := Y0 0 (by omega)
 obtain ⟨xa1, xf1⟩ := X0 1 (by omega)
 obtain ⟨ya1, yf1⟩ := Y0 1 (by omega)
 obtain ⟨xa2, xf2⟩ := X0 2 (by omega)
 obtain ⟨ya2, yf2⟩ := Y0 2 (by omega)
 obtain ⟨xa3, xf3⟩ := X0 3 (by omega)
 obtain ⟨ya3, yf3⟩ := Y0 3 (by omega)
 obtain ⟨xa4, xf4⟩ := X0 4 (by omega)
 obtain ⟨ya4, yf4⟩ := Y0 4 (by omega)
 obtain ⟨xa5, xf5⟩ := X0 5 (by omega)
 obtain ⟨ya5, yf5⟩ := Y0 5 (by omega)
 clear X0 Y0
 have hbw := hid (bstep (show Below w.heap.size w _ by go_grown) (Nat.le_refl _) hB1)
 have eb : ¬ b = w.heap.size + 1 + 1 := by omega
 have eb' : ¬ w.heap.size + 1 + 1 = b := by omega
 have M0 := (hbw.out.cell (p := ⟨b, off + pa.toNat * 9 + 6, none⟩) (by show b < _; omega)).trans mm0
 have O0 := (hbw.out.cell (p := ⟨b, off + pa.toNat * 9 + 7, none⟩) (by show b < _; omega)).trans oo0
 clear mm0 oo0
 have M1 := (hbw.out.cell (p := ⟨b, off + pb.toNat * 9 + 6, none⟩) (by show b < _; omega)).trans mm1
 have O1 := (hbw.out.cell (p := ⟨b, off + pb.toNat * 9 + 7, none⟩) (by show b < _; omega)).trans oo1
 clear mm1 oo1
 have M2 := (hbw.out.cell (p := ⟨b, off + pc.toNat * 9 + 6, none⟩) (by show b < _; omega)).trans mm2
 have O2 := (hbw.out.cell (p := ⟨b, off + pc.toNat * 9 + 7, none⟩) (by show b < _; omega)).trans oo2
 clear mm2 oo2
 clear hgc hB1 hg hg3 hglt hsz
 go_upto_block 0 with fail
 go_cut [11] (fun s11 wx => wx.cell? ⟨w.heap.size + 1 + 1, 0, none⟩ = some (.int .i64 qi0) ∧ wx.cell? ⟨w.heap.size + 1 + 1, 1, none⟩ = some (.int .i64 qw0) ∧ wx.cell? ⟨w.heap.size + 1 + 1, 2, none⟩ = some (.int .i64 qi1) ∧ wx.cell? ⟨w.heap.size + 1 + 1, 3, none⟩ = some (.int .i64 qw1) ∧ wx.cell? ⟨w.heap.size + 1 + 1, 4, none⟩ = some (.int .i64 qi2) ∧ wx.cell? ⟨w.heap.size + 1 + 1, 5, none⟩ = some (.int .i64 qw2) ∧ wx.cell? ⟨w.heap.size + 1, 0, none⟩ = some (.int .i64 0) ∧ wx.frozen? ⟨w.heap.size + 1, 0, none⟩ = false ∧ wx.cell? ⟨w.heap.size + 1, 1, none⟩ = some (.int .i64 0) ∧ wx.frozen? ⟨w.heap.size + 1, 1, none⟩ = false ∧ wx.cell? ⟨w.heap.size + 1, 2, none⟩ = some (.int .i64 0) ∧ wx.frozen? ⟨w.heap.size + 1, 2, none⟩ = false ∧ wx.cell? ⟨w.heap.size + 1, 3, none⟩ = some (.int .i64 0) ∧ wx.frozen? ⟨w.heap.size + 1, 3, none⟩ = false ∧ wx.cell? ⟨w.heap.size + 1, 4, none⟩ = some (.int .i64 0) ∧ wx.frozen? ⟨w.heap.size + 1, 4, none⟩ = false ∧ wx.cell? ⟨w.heap.size + 1, 5, none⟩ = some (.int .i64 0) ∧ wx.frozen? ⟨w.heap.size + 1, 5, none⟩ = false ∧ Below w.heap.size w wx)
 case first =>
  go_wp2
  go_rounds 4
  go_meet
  have hin := World.cell?_setCells_in (w.heap.size + 1 + 1) [.int .i64 qi0, .int .i64 qw0, .int .i64 qi1, .int .i64 qw1, .int .i64 qi2, .int .i64 qw2] 0 w1 (fun q hq => by have hq' : q < 6 := hq; rcases (by omega : q = 0 ∨ q = 1 ∨ q = 2 ∨ q = 3 ∨ q = 4 ∨ q = 5) with rfl | rfl | rfl | rfl | rfl | rfl <;> simp [*])
  refine ⟨?_, ?_, ?_, ?_, ?_, ?_, ?_, ?_, ?_, ?_, ?_, ?_, ?_, ?_, ?_, ?_, ?_, ?_, ?_⟩
  rotate_right
  ·have hbw' := hbw.out
   clear hbw
   go_grown
  ·exact hin 0 (by simp)
  ·exact hin 1 (by simp)
  ·exact hin 2 (by simp)
  ·exact hin 3 (by simp)
  ·exact hin 4 (by simp)
  ·exact hin 5 (by simp)
  ·exact (World.cell?_setCells_out (w.heap.size + 1 + 1) [.int .i64 qi0, .int .i64 qw0, .int .i64 qi1, .int .i64 qw1, .int .i64 qi2, .int .i64 qw2] 0 w1 ⟨w.heap.size + 1, 0, none⟩ (fun e => absurd (show w.heap.size + 1 = w.heap.size + 1 + 1 from e) (by omega))).trans xa0
  ·exact (World.frozen?_setCells (w.heap.size + 1 + 1) [.int .i64 qi0, .int .i64 qw0, .int .i64 qi1, .int .i64 qw1, .int .i64 qi2, .int .i64 qw2] 0 w1 _).trans xf0
  ·exact (World.cell?_setCells_out (w.heap.size + 1 + 1) [.int .i64 qi0, .int .i64 qw0, .int .i64 qi1, .int .i64 qw1, .int .i64 qi2, .int .i64 qw2] 0 w1 ⟨w.heap.size + 1, 1, none⟩ (fun e => absurd (show w.heap.size + 1 = w.heap.size + 1 + 1 from e) (by omega))).trans xa1
  ·exact (World.frozen?_setCells (w.heap.size + 1 + 1) [.int .i64 qi0, .int .i64 qw0, .int .i64 qi1, .int .i64 qw1, .int .i64 qi2, .int .i64 qw2] 0 w1 _).trans xf1
  ·exact (World.cell?_setCells_out (w.heap.size + 1 + 1) [.int .i64 qi0, .int .i64 qw0, .int .i64 qi1, .int .i64 qw1, .int .i64 qi2, .int .i64 qw2] 0 w1 ⟨w.heap.size + 1, 2, none⟩ (fun e => absurd (show w.heap.size + 1 = w.heap.size + 1 + 1 from e) (by omega))).trans xa2
  ·exact (World.frozen?_setCells (w.heap.size + 1 + 1) [.int .i64 qi0, .int .i64 qw0, .int .i64 qi1, .int .i64 qw1, .int .i64 qi2, .int .i64 qw2] 0 w1 _).trans xf2
  ·exact (World.cell?_setCells_out (w.heap.size + 1 + 1) [.int .i64 qi0, .int .i64 qw0, .int .i64 qi1, .int .i64 qw1, .int .i64 qi2, .int .i64 qw2] 0 w1 ⟨w.heap.size + 1, 3, none⟩ (fun e => absurd (show w.heap.size + 1 = w.heap.size + 1 + 1 from e) (by omega))).trans xa3
  ·exact (World.frozen?_setCells (w.heap.size + 1 + 1) [.int .i64 qi0, .int .i64 qw0, .int .i64 qi1, .int .i64 qw1, .int .i64 qi2, .int .i64 qw2] 0 w1 _).trans xf3
  ·exact (World.cell?_setCells_out (w.heap.size + 1 + 1) [.int .i64 qi0, .int .i64 qw0, .int .i64 qi1, .int .i64 qw1, .int .i64 qi2, .int .i64 qw2] 0 w1 ⟨w.heap.size + 1, 4, none⟩ (fun e => absurd (show w.heap.size + 1 = w.heap.size + 1 + 1 from e) (by omega))).trans xa4
  ·exact (World.frozen?_setCells (w.heap.size + 1 + 1) [.int .i64 qi0, .int .i64 qw0, .int .i64 qi1, .int .i64 qw1, .int .i64 qi2, .int .i64 qw2] 0 w1 _).trans xf4
  ·exact (World.cell?_setCells_out (w.heap.size + 1 + 1) [.int .i64 qi0, .int .i64 qw0, .int .i64 qi1, .int .i64 qw1, .int .i64 qi2, .int .i64 qw2] 0 w1 ⟨w.heap.size + 1, 5, none⟩ (fun e => absurd (show w.heap.size + 1 = w.heap.size + 1 + 1 from e) (by omega))).trans xa5
  ·exact (World.frozen?_setCells (w.heap.size + 1 + 1) [.int .i64 qi0, .int .i64 qw0, .int .i64 qi1, .int .i64 qw1, .int .i64 qi2, .int .i64 qw2] 0 w1 _).trans xf5
 case rest =>
 obtain ⟨ca0, ca1, ca2, ca3, ca4, ca5, za0, zf0, za1, zf1, za2, zf2, za3, zf3, za4, zf4, za5, zf5, hbc⟩ := hcut
 clear xa0 xa1 xa2 xa3 xa4 xa5 xf0 xf1 xf2 xf3 xf4 xf5 ya0 ya1 ya2 ya3 ya4 ya5 yf0 yf1 yf2 yf3 yf4 yf5
 clear hbw
 have hbw := hid hbc
 clear hbc
 go_wp2
 refine bodyPost_ret (v := .agg #[.int .i64 qi0, .int .i64 qw0, .int .i64 qi1, .int .i64 qw1, .int .i64 qi2, .int .i64 qw2]) (by simp [results, Tryz.results203, go_sem, za0, za1, za2, za3, za4, za5]) rfl ⟨?_, ?_⟩
 ·unfold sorts3; rw [HS0.out, HS1.out, HS2.out]
  rw [show partAt ⟨k, pa, pb, pc, n, m, si, sw, nm⟩ 0 = pa from rfl, HQ0.out]; rw [show partAt ⟨k, pa, pb, pc, n, m, si, sw, nm⟩ 1 = pb from rfl, HQ1.out]; rw [show partAt ⟨k, pa, pb, pc, n, m, si, sw, nm⟩ 2 = pc from rfl, HQ2.out]
 ·have hbw' := hbw.out
  clear hbw
  go_grown
end Go.Proofs.YtlcgimadbpagfaaGreat
