/-
  Parts: EvS, EvT, shortened.
-/
import Derived.Test.YtlcgimadbpagfaaGreatZValO
import Derived.StillTailTactics
import Derived.Deep.RegionLaw
import Derived.Lib.LazyBuf
namespace Go.Proofs.YtlcgimadbpagfaaGreat
open Go.Lib
open Go.ChangeShapes Go.WideShapes Go.ChangeAt Go.RowKit Go.Maps
set_option linter.unusedVariables false
set_option maxRecDepth 100000
theorem World.ownsInts.mono' {w : World} {base base' : Nat} {v : Value} {zs : List Int} (h : w.ownsInts base 3 .i64 v zs) (hb : base' ≤ base) : w.ownsInts base' 3 .i64 v zs := ⟨h.1.mono hb, h.2⟩
def ValP (zs : List Int) (w : World) (e : Ending) (w' : World) : Prop := ∃ x, e = .returned (.agg #[x]) ∧ w'.ownsInts w.heap.size 3 .i64 x zs ∧ Below w.heap.size w w'
def ClnP (zs : List Int) (w : World) (e : Ending) (w' : World) : Prop := ∃ x, e = .returned x ∧ w'.ownsInts w.heap.size 3 .i64 x zs ∧ Below w.heap.size w w'
theorem own_lit {w : World} {base g : Nat} {z : Int} (hb : base ≤ g) (h : w.heap[g]? = some (.cells #[.int .i64 z] 3 (0, 0))) (hz : fits z) : w.ownsInts base 3 .i64 (.slice (some ⟨g, 0, none⟩) 1 1) [z] :=
 ⟨⟨rfl, .inr ⟨g, 1, _, rfl, hb, h, Nat.le_refl _, by decide, rfl, rfl⟩⟩, fun y hy => by simp at hy; subst hy; exact hz⟩
set_option maxHeartbeats 4000000 in
theorem c_l4One (z : Int) (hz : fits z) (w : World) : Calls Tryz.prog 85 #[.int .i64 z] w (ValP [z] w) := by
 go_enter Tryz.func85, Tryz.ntmps85
 go_wp2_with fail
 have HB := hid (show Below w.heap.size w ((w.alloc (.cells #[.slice (some ⟨w.heap.size + 1, 0, none⟩) 1 1] 69)).alloc (.cells #[.int .i64 z] 3)) from by go_grown)
 have h1 : ((w.alloc (.cells #[.slice (some ⟨w.heap.size + 1, 0, none⟩) 1 1] 69)).alloc (.cells #[.int .i64 z] 3)).heap[w.heap.size]? = some (.cells #[.slice (some ⟨w.heap.size + 1, 0, none⟩) 1 1] 69 (0, 0)) := by
  rw [(MapKept.heap_alloc _ _).2 _ (alloc_ltS _ _)]; exact (MapKept.heap_alloc _ _).1
 have h2 := (MapKept.heap_alloc (w.alloc (.cells #[.slice (some ⟨w.heap.size + 1, 0, none⟩) 1 1] 69)) (.cells #[.int .i64 z] 3)).1
 have e : (w.alloc (.cells #[.slice (some ⟨w.heap.size + 1, 0, none⟩) 1 1] 69)).heap.size = w.heap.size + 1 := by show (w.heap.push _).size = _; simp
 rw [e] at h2
 exact bodyPost_ret (v := .agg _) (results_cell_row rfl _ _ w.heap.size 69 _ (0, 0) _ rfl h1 Tryz.underlying69 rfl (by kernel_rfl)) rfl
  ⟨_, rfl, own_lit (Nat.le_succ _) h2 hz, HB.out⟩
def CpJ (zs : List Int) (A : Value) (w : World) (i : Value) (wr : World) : Prop := ∃ (j : Nat) (cv : Value), j ≤ zs.length ∧ i = .int .i64 j ∧ wr.heap[w.heap.size]? = some (.cells #[A] 69 (0, 0)) ∧ wr.heap[w.heap.size + 1]? = some (.cells #[.slice none 0 0] 69 (0, 0)) ∧ wr.heap[w.heap.size + 2]? = some (.cells #[cv] 69 (0, 0)) ∧ wr.ownsInts (w.heap.size + 3) 3 .i64 cv (zs.take j) ∧ Below w.heap.size w wr
theorem cpj_next {zs : List Int} {A : Value} {w wi w4 : World} {o : Obj} {cv : Value} {j g cap : Nat} {z : Int} (hj : j < zs.length) (hz : zs.getD j 0 = z) (hfz : fits z)
  (h1 : wi.heap[w.heap.size]? = some (.cells #[A] 69 (0, 0))) (h1' : wi.heap[w.heap.size + 1]? = some (.cells #[.slice none 0 0] 69 (0, 0))) (h2 : wi.heap[w.heap.size + 2]? = some (.cells #[cv] 69 (0, 0))) (ho : wi.ownsInts (w.heap.size + 3) 3 .i64 cv (zs.take j)) (hB : Below w.heap.size w wi)
  (hown : w4.ownsRow (w.heap.size + 3) 3 1 (.slice (some ⟨g, 0, none⟩) (j + 1) cap) (j + 1) ((zs.take j).map (Value.int .i64) ++ [.int .i64 z])) (hg : (wi.drew.alloc o).grownBy w4 cv.ownBlock) :
  CpJ zs A w (.int .i64 ((j : Int) + 1)) (w4.setCell ⟨w.heap.size + 2, 0, none⟩ (.slice (some ⟨g, 0, none⟩) (j + 1) cap)) := by
 have hs2 := (Array.getElem?_eq_some_iff.1 h2).1
 have hk : ∀ x, x < w.heap.size + 3 → w4.heap[x]? = wi.heap[x]? := fun x hx' => app_keep hg (by omega) (fun y hy => by have := (ho.1.lt y hy).1; omega)
 have hl : (zs.take j).length = j := by rw [List.length_take]; omega
 refine ⟨j + 1, _, hj, by go_num, (heap_setCell_other _ _ _ _ (by simp)).trans ((hk _ (by omega)).trans h1), (heap_setCell_other _ _ _ _ (by simp)).trans ((hk _ (by omega)).trans h1'), one_setCell ((hk _ (by omega)).trans h2), ?_, ?_⟩
 ·have h3 : w4.ownsInts (w.heap.size + 3) 3 .i64 (.slice (some ⟨g, 0, none⟩) (j + 1) cap) (zs.take j ++ [z]) := ho.appended (by rw [hl]; exact hown) hfz
  have h4 : zs.take (j + 1) = zs.take j ++ [z] := by rw [List.take_succ_eq_append_getElem hj, ← hz]; simp [List.getD, hj]
  rw [h4]
  exact own_block h3 (fun x hx1 _ hx3 => heap_setCell_other _ _ _ _ (by show x ≠ w.heap.size + 2; omega))
 ·have hb2 : Below w.heap.size w (wi.drew.alloc o) := Below.alloc hB.drew hB.size _
  have hw4 : Below w.heap.size w w4 := hb2.grown hg (by simp; omega) (fun x hx' => by have := (ho.1.lt x hx').1; omega)
  exact hw4.setCell (by show w.heap.size ≤ w.heap.size + 2; omega) _
theorem cpj_start (zs : List Int) (A : Value) (w : World) : CpJ zs A w (.int .i64 0) (((w.alloc (.cells #[A] 69)).alloc (.cells #[.slice none 0 0] 69)).alloc (.cells #[.slice none 0 0] 69)) := by
 refine ⟨0, .slice none 0 0, Nat.zero_le _, rfl, ?_, ?_, ?_, by simpa using World.ownsInts_nil _ _ _ _, by go_grown⟩
 ·rw [(MapKept.heap_alloc _ _).2 _ (Nat.lt_of_lt_of_le (alloc_ltS _ _) (Nat.le_of_lt (alloc_ltS _ _))), (MapKept.heap_alloc _ _).2 _ (alloc_ltS _ _)]
  exact (MapKept.heap_alloc _ _).1
 ·have e : w.heap.size + 1 = (w.alloc (.cells #[A] 69)).heap.size := by show _ = (w.heap.push _).size; simp
  rw [e, (MapKept.heap_alloc _ _).2 _ (alloc_ltS _ _)]
  exact (MapKept.heap_alloc _ _).1
 ·have e : w.heap.size + 2 = ((w.alloc (.cells #[A] 69)).alloc (.cells #[.slice none 0 0] 69)).heap.size := by show _ = ((w.heap.push _).push _).size; simp
  rw [e]
  exact (MapKept.heap_alloc _ _).1
set_option maxHeartbeats 8000000 in
theorem c_l4Copy {B : Nat} {a : Option Addr} {len cap : Nat} {zs : List Int} (w : World) (hBw : B ≤ w.heap.size) (h : IntsAt B w a len cap zs) (h4 : zs.length ≤ 1048576) :
  Calls Tryz.prog 86 #[.agg #[.slice a len cap]] w (ValP zs w) := by
 have HZA := hid h
 have hzl : zs.length = len := h.1
 clear h
 obtain ⟨i1, hi1, hz01, hz11, hz21⟩ := info_parts intInfo
 have HI1 := hid hi1
 have HZ01 := hid hz01
 have HZ11 := hid hz11
 have HZ21 := hid hz21
 clear hi1 hz01 hz11 hz21
 subst hzl
 go_enter Tryz.func86, Tryz.ntmps86
 go_upto_region 2 with fail
 refine code_gen (R := fun wb => CpJ zs (.slice a zs.length cap) w (.int .i64 0) wb) (cpj_start _ _ _) ?_
 intro w0 h0
 have H0 := hid h0
 clear h0
 go_wp2_with fail
 go_loopw [4] (fun i wr => CpJ zs (.slice a zs.length cap) w i wr) (fun i _ => zs.length - (intOf i).toNat)
 case atStart => exact H0.out
 case round =>
  obtain ⟨j, cv, hj, rfl, k1, k1', k2, hown, hBj⟩ := hrel
  have HK1 := hid k1
  have HK1' := hid k1'
  have HK2 := hid k2
  have HOW := hid hown
  have HBJ := hid hBj
  have hl2 : w.heap.size + 2 < wr.heap.size := (Array.getElem?_eq_some_iff.1 k2).1
  have y0 := cell_of_block (i := 0) k1 (v := .slice a zs.length cap) rfl
  have v0 := cell_of_block (i := 0) k2 (v := cv) rfl
  have f0 := free_of_block (i := 0) k2
  clear k1 k2 hown hBj H0
  by_cases hjl : j < zs.length
  ·have hji : (j : Int) < zs.length := by omega
   obtain ⟨z, b3, o3, hz, hfz, rfl, hbB3, z0⟩ := int_at (HZA.out.below (HBJ.out.mono hBw)) hjl
   have HZZ := hid hz
   have HFZ := hid hfz
   have HOJ := hid (show wr.ownsRow (w.heap.size + 3) 3 1 cv j ((zs.take j).map (Value.int .i64)) from by have h1 := HOW.out.1; rw [List.length_take, Nat.min_eq_left hj] at h1; exact h1)
   clear hz hfz k1'
   go_upto_region 5 with fail
   go_region_law (first | (refine step_append_lies _ rfl (.tmp 13) (.tmp 19) 24 rfl (w.heap.size + 3) 3 i1 (.int .i64 0) 1 8 Tryz.underlying24 HI1.out HZ01.out HZ11.out HZ21.out rfl (by decide) cv j _ (by simp [Act.eval]) (HOJ.out.drew.alloc _) ⟨wr.heap.size, 0, none⟩ 1 1 [.int .i64 z] (by simp [Act.eval]) rfl (cell_one_new wr.drew _ _) (ints_oneCell .i64 [z]) (by decide) (by unfold maxLen; omega) (by omega) (by simp; omega) _ rfl ?_; intro g cap' w4 hown' hgrow' hat hlt4; have v4 := (World.cell?_of_block (w := wr) (w' := w4) (a := ⟨w.heap.size + 2, 0, none⟩) (app_keep hgrow' hl2 (fun x hx => (HOJ.out.lt x hx).1))).trans v0; have f4 := (World.frozen?_of_block (w := wr) (w' := w4) (a := ⟨w.heap.size + 2, 0, none⟩) (app_keep hgrow' hl2 (fun x hx => (HOJ.out.lt x hx).1))).trans f0))
   all_goals
    have HQ := hid (cpj_next hjl HZZ.out HFZ.out HK1.out HK1'.out HK2.out HOW.out HBJ.out hown' hgrow')
    clear hown' hgrow' hat hlt4 v4 f4 y0 v0 f0 z0
    go_wp2_with fail
    go_roundw
    case rel => exact HQ.out
    case measure => simp [intOf] <;> omega
  ·have hji : ¬ (j : Int) < zs.length := by omega
   obtain rfl : j = zs.length := by omega
   have h0 := HOW.out
   rw [List.take_length] at h0
   obtain ⟨ca, cc, rfl, -⟩ := own_form h0
   have HO2 := hid h0
   clear h0
   have x0 := cell_of_block (i := 0) k1' (v := .slice none 0 0) rfl
   have g0 := free_of_block (i := 0) k1'
   clear k1'
   go_wp2_with fail
   have HE := hid (HBJ.out.setCell (p := ⟨w.heap.size + 1, 0, none⟩) (Nat.le_succ _) (.slice ca zs.length cc))
   exact bodyPost_ret (v := .agg _) (results_cell_row rfl _ _ (w.heap.size + 1) 69 _ (0, 0) _ rfl (heap_setCell_same _ _ 0 _ _ (.slice ca zs.length cc) HK1'.out) Tryz.underlying69 rfl (by kernel_rfl)) rfl
    ⟨_, rfl, own_block (World.ownsInts.mono' HO2.out (Nat.le_add_right _ 3)) (fun x _ _ h3 => heap_setCell_other _ _ _ _ (by have := (HO2.out.1.lt x h3).1; show x ≠ w.heap.size + 1; omega)), HE.out⟩
end Go.Proofs.YtlcgimadbpagfaaGreat
namespace Go.Proofs.YtlcgimadbpagfaaGreat
open Go.Lib
open Go.ChangeShapes Go.WideShapes Go.ChangeAt Go.RowKit Go.Maps
set_option linter.unusedVariables false
set_option maxRecDepth 100000
theorem ints_cell {B : Nat} {w : World} {a : Addr} {len cap : Nat} {zs : List Int} (h : IntsAt B w (some a) len cap zs) : ∀ j u, (zs.map (Value.int .i64))[j]? = some u → w.cell? (a.add j) = some u := by
 intro j u hj
 have hl : j < zs.length := by
  rcases Nat.lt_or_ge j zs.length with h1 | h1
  ·exact h1
  ·rw [List.getElem?_eq_none (by simpa using h1)] at hj; cases hj
 obtain ⟨p, b, off, hp, -, ha, -, hc⟩ := int_at h (show j < len by have := h.1; omega)
 injection ha with ha
 subst ha
 have e : (⟨b, off, none⟩ : Addr).add j = ⟨b, off + j, none⟩ := by cases j <;> simp [Addr.add]
 rw [e, hc]
 simp [hl] at hj
 rw [← hj, ← hp]
 simp [List.getD, hl]
set_option maxHeartbeats 4000000 in
theorem c_Clone {B : Nat} {a : Option Addr} {len cap : Nat} {zs : List Int} (w : World) (hBw : B ≤ w.heap.size) (h : IntsAt B w a len cap zs) (h4 : len ≤ 1048576) :
  Calls Tryz.prog 81 #[.slice a len cap] w (ClnP zs w) := by
 have HZA := hid h
 have hzl : zs.length = len := h.1
 have HZF := hid (show ∀ z ∈ zs, (Lit.int .i64 z).wf = true from fun z hz => h.2.2.2.1 z hz)
 have hnil : a = none → len = 0 ∧ cap = 0 := fun e => by have h1 := h.2.2.2.2.1 e; have h2 := h.2.1; omega
 clear h
 obtain ⟨i1, hi1, hz01, hz11, hz21⟩ := info_parts intInfo
 have HI1 := hid hi1
 have HZ01 := hid hz01
 have HZ11 := hid hz11
 have HZ21 := hid hz21
 clear hi1 hz01 hz11 hz21
 subst hzl
 cases a with
 | none =>
  obtain ⟨h1, rfl⟩ := hnil rfl
  have hz : zs = [] := List.length_eq_zero_iff.1 h1
  subst hz
  have hnl := run_eql_slice_nil (P := Tryz.prog) w 24 3 none 0 0 Tryz.underlying24
  go_enter Tryz.func81, Tryz.ntmps81
  go_wp2_with fail
  go_ret
  exact ⟨_, rfl, World.ownsInts_nil _ _ _ _, Below.refl _ _⟩
 | some ad =>
  clear hnil
  have HC := hid (ints_cell (HZA.out.below (show Below B w (w.alloc (.cells #[] 3)) from Below.mono (show Below w.heap.size w _ by go_grown) hBw)))
  have HR0 := hid (show (w.alloc (.cells #[] 3)).ownsRow w.heap.size 3 1 (.slice (some ⟨w.heap.size, 0, none⟩) 0 0) 0 [] from ⟨rfl, .inr ⟨w.heap.size, 0, #[], rfl, Nat.le_refl _, (MapKept.heap_alloc _ _).1, Nat.le_refl _, Nat.zero_le _, rfl, rfl⟩⟩)
  have hnl := run_eql_slice_nil (P := Tryz.prog) w 24 3 (some ad) zs.length cap Tryz.underlying24
  go_enter Tryz.func81, Tryz.ntmps81
  go_wp2_with (first | (at_builtin; refine wpList_append_own_at _ rfl _ _ 24 rfl w.heap.size 3 i1 (.int .i64 0) 1 8 Tryz.underlying24 HI1.out HZ01.out HZ11.out HZ21.out rfl (by decide) _ 0 [] rfl HR0.out ad zs.length cap (zs.map (Value.int .i64)) rfl (by simp) HC.out (ints_oneCell .i64 zs) (by unfold maxLen; omega) (by omega) (by simp) ?_; intro v' w1 hown' hgrow' hnil hloc) | go_in)
  have HO := hid (show w1.ownsInts w.heap.size 3 .i64 v' zs from ⟨by simpa using hown', HZF.out⟩)
  have HB := hid ((Below.alloc (Below.refl w.heap.size w) (Nat.le_refl _) (.cells #[] 3)).grown hgrow' (by simp) (fun j hj => (HR0.out.lt j hj).1))
  clear hown' hgrow' hnil hloc
  go_ret
  exact ⟨_, rfl, HO.out, HB.out⟩
theorem list_eq_of {zs ys : List Int} (hl : zs.length = ys.length) (h : ∀ t, t < zs.length → zs.getD t 0 = ys.getD t 0) : zs = ys := by
 apply List.ext_getElem hl
 intro i h1 h2
 have := h i h1
 simpa [List.getD, h1, h2] using this
set_option maxHeartbeats 4000000 in
theorem c_Equal {B : Nat} {a a' : Option Addr} {len len' cap cap' : Nat} {zs ys : List Int} (w : World) (hBw : B ≤ w.heap.size) (h : IntsAt B w a len cap zs) (h' : IntsAt B w a' len' cap' ys) :
  Calls Tryz.prog 103 #[.slice a len cap, .slice a' len' cap'] w fun e w' => BoolIs (zs = ys) e ∧ Below w.heap.size w w' := by
 have H1 := hid h
 have H2 := hid h'
 have hm1 := Nat.le_trans h.2.1 h.2.2.1
 have hm2 := Nat.le_trans h'.2.1 h'.2.2.1
 unfold maxLen at hm1 hm2
 obtain rfl : zs.length = len := h.1
 obtain rfl : ys.length = len' := h'.1
 clear h h'
 by_cases hl : zs.length = ys.length
 ·have hl' : (zs.length : Int) = ys.length := by omega
  have HL := hid hl
  rw [← hl] at H2 hm2 ⊢
  clear hl hl'
  go_enter Tryz.func103, Tryz.ntmps103
  go_wp2_with fail
  go_loopw [13] (fun i wr => ∃ j : Nat, j ≤ zs.length ∧ i = .int .i64 j ∧ (∀ t, t < j → zs.getD t 0 = ys.getD t 0) ∧ Below w.heap.size w wr) (fun i _ => zs.length - (intOf i).toNat)
  case atStart => exact ⟨0, by omega, rfl, fun t h => by omega, Below.refl _ _⟩
  case round =>
   obtain ⟨j, hj, rfl, ha, hb⟩ := hrel
   have HA := hid ha
   have HB := hid hb
   clear ha hb
   by_cases hjl : j < zs.length
   ·have hji : (j : Int) < zs.length := by omega
    obtain ⟨p, b1, o1, hp, -, rfl, hb1, c1⟩ := int_at (H1.out.below (HB.out.mono hBw)) hjl
    obtain ⟨q, b2, o2, hq, -, rfl, hb2, c2⟩ := int_at (H2.out.below (HB.out.mono hBw)) hjl
    have HP1 := hid hp
    have HP2 := hid hq
    clear hp hq
    by_cases hpq : p = q
    ·subst hpq
     go_upto_region 6 with fail
     refine wp_region_held_drew (S := (fun w' => w'.cell? ⟨b1, o1 + j, none⟩ = some (.int .i64 p) ∧ w'.cell? ⟨b2, o2 + j, none⟩ = some (.int .i64 p))) (by kernel_rfl) ?_ (fun hHeld => ?_)
     ·exact ⟨c1, c2⟩
     refine tL 0 (some 16) ?_
     refine tL 1 (some 17) ?_
     refine tL 2 (some 18) ?_
     refine tL 3 (some 19) ?_
     refine tL 4 (some 20) ?_
     refine tL 5 (some 21) ?_
     refine tL 6 (some 22) ?_
     refine tL 7 (some 23) ?_
     refine tL 8 (some 24) ?_
     refine wpAnyH_done (by kernel_rfl) ?_ _
     clear hHeld
     go_wp2_with fail
     go_roundw
     case rel => exact ⟨j + 1, by omega, by go_num, fun t ht => by
      by_cases e : t = j
      ·subst e; rw [HP1.out, HP2.out]
      ·exact HA.out t (by omega), HB.out.drew⟩
     case measure => simp [intOf] <;> omega
    ·have HPQ := hid hpq
     go_upto_region 6 with fail
     refine wp_region_held_drew (S := (fun w' => w'.cell? ⟨b1, o1 + j, none⟩ = some (.int .i64 p) ∧ w'.cell? ⟨b2, o2 + j, none⟩ = some (.int .i64 q))) (by kernel_rfl) ?_ (fun hHeld => ?_)
     ·exact ⟨c1, c2⟩
     refine tL 0 (some 16) ?_
     refine tL 1 (some 17) ?_
     refine tL 2 (some 18) ?_
     refine tL 3 (some 19) ?_
     refine tL 4 (some 20) ?_
     refine tL 5 (some 21) ?_
     refine tL 6 (some 22) ?_
     refine tL 7 (some 23) ?_
     refine tL 8 (some 24) ?_
     refine wpAnyH_done (by kernel_rfl) ?_ _
     clear hHeld
     go_wp2_with fail
     go_ret
     exact ⟨⟨_, rfl, by simp only [Bool.false_eq_true, false_iff]; intro e; rw [e] at HP1; exact HPQ.out (HP1.out.symm.trans HP2.out)⟩, HB.out.drew⟩
   ·have hji : ¬ (j : Int) < zs.length := by omega
    obtain rfl : j = zs.length := by omega
    go_wp2_with fail
    go_ret
    exact ⟨⟨_, rfl, by simp only [true_iff]; exact list_eq_of HL.out HA.out⟩, HB.out⟩
 ·have HL := hid (show ¬ zs = ys from fun e => hl (by rw [e]))
  have hl1 : ¬ (zs.length : Int) = ys.length := by omega
  go_enter Tryz.func103, Tryz.ntmps103
  go_wp2_with fail
  go_ret
  exact ⟨⟨_, rfl, by simp only [Bool.false_eq_true, false_iff]; exact HL.out⟩, Below.refl _ _⟩
set_option maxHeartbeats 4000000 in
theorem c_l4Same {B : Nat} {a a' : Option Addr} {len len' cap cap' : Nat} {zs ys : List Int} (w : World) (hBw : B ≤ w.heap.size) (h : IntsAt B w a len cap zs) (h' : IntsAt B w a' len' cap' ys) (hl : zs.length = ys.length) :
  Calls Tryz.prog 59 #[.agg #[.slice a len cap], .agg #[.slice a' len' cap']] w fun e w' => BoolIs (zs = ys) e ∧ Below w.heap.size w w' := by
 have H1 := hid h
 have H2 := hid h'
 have hm1 := Nat.le_trans h.2.1 h.2.2.1
 unfold maxLen at hm1
 obtain rfl : zs.length = len := h.1
 obtain rfl : ys.length = len' := h'.1
 have HL := hid hl
 rw [← hl] at H2 ⊢
 clear h h' hl
 go_enter Tryz.func59, Tryz.ntmps59
 go_upto_region 1 with fail
 refine code_gen (R := fun wb => wb.cell? ⟨w.heap.size, 0, none⟩ = some (.slice a zs.length cap) ∧ wb.cell? ⟨w.heap.size + 1, 0, none⟩ = some (.slice a' zs.length cap') ∧ w.heap.size + 1 < wb.heap.size ∧ Below w.heap.size w wb) ⟨by simp, by simp, by simp, by go_grown⟩ ?_
 rintro w0 ⟨x0, x1, hsz, hB0⟩
 have HX0 := hid x0
 have HX1 := hid x1
 have HB0 := hid hB0
 clear x0 x1 hB0
 go_wp2_with fail
 go_loopw [5] (fun i wr => ∃ j : Nat, j ≤ zs.length ∧ i = .int .i64 j ∧ (∀ t, t < j → zs.getD t 0 = ys.getD t 0) ∧ Below w0.heap.size w0 wr) (fun i _ => zs.length - (intOf i).toNat)
 case atStart => exact ⟨0, by omega, rfl, fun t h => by omega, Below.refl _ _⟩
 case round =>
  obtain ⟨j, hj, rfl, ha, hb⟩ := hrel
  have HA := hid ha
  have HB := hid hb
  have HBW := hid (HB0.out.trans (hb.mono HB0.out.size))
  have x0 := keepc hb (Nat.lt_of_succ_lt hsz) HX0.out
  have x1 := keepc hb hsz HX1.out
  clear ha hb
  by_cases hjl : j < zs.length
  ·have hji : (j : Int) < zs.length := by omega
   obtain ⟨p, b1, o1, hp, -, rfl, hb1, c1⟩ := int_at (H1.out.below (HBW.out.mono hBw)) hjl
   obtain ⟨q, b2, o2, hq, -, rfl, hb2, c2⟩ := int_at (H2.out.below (HBW.out.mono hBw)) hjl
   have HP1 := hid hp
   have HP2 := hid hq
   clear hp hq
   by_cases hpq : p = q
   ·subst hpq
    go_upto_region 4 with fail
    refine wp_region_held_drew (S := (fun w' => w'.cell? ⟨w.heap.size, 0, none⟩ = some (.slice (some ⟨b1, o1, none⟩) zs.length cap) ∧ w'.cell? ⟨w.heap.size + 1, 0, none⟩ = some (.slice (some ⟨b2, o2, none⟩) zs.length cap') ∧ w'.cell? ⟨b1, o1 + j, none⟩ = some (.int .i64 p) ∧ w'.cell? ⟨b2, o2 + j, none⟩ = some (.int .i64 p))) (by kernel_rfl) ?_ (fun hHeld => ?_)
    ·exact ⟨x0, x1, c1, c2⟩
    refine tL 0 (some 13) ?_
    refine tL 1 (some 14) ?_
    refine tL 2 (some 15) ?_
    refine tL 3 (some 16) ?_
    refine tL 4 (some 17) ?_
    refine tL 5 (some 18) ?_
    refine tL 6 (some 19) ?_
    refine tL 7 (some 20) ?_
    refine tL 8 (some 21) ?_
    refine tL 9 (some 22) ?_
    refine tL 10 (some 23) ?_
    refine wpAnyH_done (by kernel_rfl) ?_ _
    clear hHeld
    go_wp2_with fail
    go_roundw
    case rel => exact ⟨j + 1, by omega, by go_num, fun t ht => by
     by_cases e : t = j
     ·subst e; rw [HP1.out, HP2.out]
     ·exact HA.out t (by omega), HB.out.drew⟩
    case measure => simp [intOf] <;> omega
   ·have HPQ := hid hpq
    go_upto_region 4 with fail
    refine wp_region_held_drew (S := (fun w' => w'.cell? ⟨w.heap.size, 0, none⟩ = some (.slice (some ⟨b1, o1, none⟩) zs.length cap) ∧ w'.cell? ⟨w.heap.size + 1, 0, none⟩ = some (.slice (some ⟨b2, o2, none⟩) zs.length cap') ∧ w'.cell? ⟨b1, o1 + j, none⟩ = some (.int .i64 p) ∧ w'.cell? ⟨b2, o2 + j, none⟩ = some (.int .i64 q))) (by kernel_rfl) ?_ (fun hHeld => ?_)
    ·exact ⟨x0, x1, c1, c2⟩
    refine tL 0 (some 13) ?_
    refine tL 1 (some 14) ?_
    refine tL 2 (some 15) ?_
    refine tL 3 (some 16) ?_
    refine tL 4 (some 17) ?_
    refine tL 5 (some 18) ?_
    refine tL 6 (some 19) ?_
    refine tL 7 (some 20) ?_
    refine tL 8 (some 21) ?_
    refine tL 9 (some 22) ?_
    refine tL 10 (some 23) ?_
    refine wpAnyH_done (by kernel_rfl) ?_ _
    clear hHeld
    go_wp2_with fail
    go_ret
    exact ⟨⟨_, rfl, by simp only [Bool.false_eq_true, false_iff]; intro e; rw [e] at HP1; exact HPQ.out (HP1.out.symm.trans HP2.out)⟩, HBW.out.drew⟩
  ·have hji : ¬ (j : Int) < zs.length := by omega
   obtain rfl : j = zs.length := by omega
   go_wp2_with fail
   go_ret
   exact ⟨⟨_, rfl, by simp only [true_iff]; exact list_eq_of HL.out HA.out⟩, HBW.out⟩
end Go.Proofs.YtlcgimadbpagfaaGreat
