/-
  What is drawn for joined and for growing words: whatever the code, four values; what was there below is as it was.
-/
import Derived.Test.YtbgdgfkpijlbnaaRows
import Derived.Test.YtbgdgfkpijlbnaaMath
import Derived.Test.YtbgdgfkpijlbnaaBase
import Derived.Test.YtbgdgfkpijlbnaaRd
import Derived.WalkKit
import Derived.ProofKit
import Derived.OpenShut
import Derived.WalkSpells
import Derived.WalkLawsBesides
import Derived.Outline
import Derived.BigQuiet
import Derived.RegionTactic
import Derived.Deep.RegionWith
namespace Go.Proofs.Ytbgdgfkpijlbnaa
open Go.ChangeShapes Go.WideShapes Go.ChangeAt Go.RowKit
set_option linter.unusedVariables false

theorem results_tmp4 {fn : Func} {t u v x : Tmp} (h : fn.results = #[.tmp t, .tmp u, .tmp v, .tmp x]) (tmps : Array Value) (P : Program) (w : World) :
    (results fn tmps).run P w = .ok (.tuple #[tmps.getD t undef, tmps.getD u undef, tmps.getD v undef, tmps.getD x undef]) w := by
  simp [results, h]

theorem c_DrawWordJoin {B : Nat} {a : Option Addr} {len cap : Nat} (w : World) (h : BytesAt B w a len cap) (hB : B ≤ w.heap.size) :
    Calls Try.prog 24 #[.slice a len cap] w fun e w' => ∃ n x u y : Int, e = .returned (.tuple #[.int .i64 n, .int .i64 x, .int .i64 u, .int .i64 y]) ∧ Below B w w' := by
  go_enter Try.func24, Try.ntmps24
  go_wp2_with fail
  refine (c_l17Open _ h hB).mono ?_
  rintro e w1 ⟨rfl, hR1, hB1⟩
  go_wp2_with fail
  refine (c_width _ hR1 (by omega)).mono ?_
  rintro e w2 ⟨n, rfl, hn1, hn2, hR2, hO2⟩
  generalize w.heap.size = R at *
  go_wp2_with fail
  refine (c_width _ hR2 (by omega)).mono ?_
  rintro e w3 ⟨u, rfl, hu1, hu2, hR3, hO3⟩
  go_wp2_with fail
  refine (k_pick _ _ hR3 (by omega)).mono ?_
  rintro e w4 ⟨v4, rfl, hv4, hR4, hO4⟩
  have HO : Hid (Only R w1 w4) := hO2.trans (hO3.trans hO4)
  have hs1 := hR1.lt
  have hle := hR1.le
  clear hO2 hO3 hO4 hR1 hR2 hR3
  go_wp2_with fail
  · refine (k_pick _ _ hR4 (by omega)).mono ?_
    rintro e w5 ⟨v5, rfl, hv5, hR5, hO5⟩
    have hv := hv5 (by omega)
    go_wp2_with fail
    refine (c_word _ _ hR5 (by omega) (by omega) (by omega)).mono ?_
    rintro e w6 ⟨x, rfl, hx1, hx2, hR6, hO6⟩
    go_wp2_with fail
    refine (c_word _ _ hR6 (by omega) (by omega) (by omega)).mono ?_
    rintro e w7 ⟨y, rfl, hy1, hy2, hR7, hO7⟩
    have HB2 : Hid (Below B w w7) := hB1.trans ((HO.out.trans (hO5.trans (hO6.trans hO7))).below hle (by omega))
    clear HO hO5 hO6 hO7 hR4 hR5 hR6 hR7 hB1
    go_wp2
    exact bodyPost_ret (results_tmp4 rfl _ _ _) rfl ⟨_, _, _, _, rfl, HB2.out⟩
  · refine (c_word _ _ hR4 (by omega) (by omega) (by omega)).mono ?_
    rintro e w6 ⟨x, rfl, hx1, hx2, hR6, hO6⟩
    go_wp2_with fail
    refine (c_word _ _ hR6 (by omega) (by omega) (by omega)).mono ?_
    rintro e w7 ⟨y, rfl, hy1, hy2, hR7, hO7⟩
    have HB2 : Hid (Below B w w7) := hB1.trans ((HO.out.trans (hO6.trans hO7)).below hle (by omega))
    clear HO hO6 hO7 hR4 hR6 hR7 hB1
    go_wp2
    exact bodyPost_ret (results_tmp4 rfl _ _ _) rfl ⟨_, _, _, _, rfl, HB2.out⟩

theorem Only.undrew {R : Nat} {w w' : World} (h : Only R w.drew w') : Only R w w' := ⟨h.os, h.tape, h.output, h.size, h.block⟩
/-- A row of literals lies in block Z, beside the reader. -/
def LitAt (Z : Nat) (c : Array Value) (R : Nat) (w : World) : Prop := Z < w.heap.size ∧ Z ≠ R ∧ ∀ i, w.cell? ⟨Z, i, none⟩ = c[i]?
theorem LitAt.only {Z : Nat} {c : Array Value} {R : Nat} {w w' : World} (h : LitAt Z c R w) (hO : Only R w w') : LitAt Z c R w' :=
  ⟨Nat.lt_of_lt_of_le h.1 hO.size, h.2.1, fun i => (hO.cell (x := ⟨Z, i, none⟩) h.1 h.2.1).trans (h.2.2 i)⟩
theorem LitAt.new {c : Array Value} {R : Nat} {w : World} (t : TypeId) (h : R < w.heap.size) : LitAt w.heap.size c R (w.alloc (.cells c t)) :=
  ⟨alloc_lt _ _, by omega, fun i => World.cell?_alloc_at _ _ _ _ rfl⟩
def sel (p q v : Int) : Int := if v = 0 then 0 else if v = 1 then 1 else if v = 2 then 3 else if v = 3 then p else if v = 4 then q else -1
theorem sel_at (v : Int) (h0 : 0 ≤ v) (h6 : v < 6) (p q : Int) : #[Value.int .i64 0, .int .i64 1, .int .i64 3, .int .i64 p, .int .i64 q, .int .i64 (-1)][v.toNat]? = some (.int .i64 (sel p q v)) := by
  rcases (by omega : v = 0 ∨ v = 1 ∨ v = 2 ∨ v = 3 ∨ v = 4 ∨ v = 5) with rfl | rfl | rfl | rfl | rfl | rfl <;> rfl

theorem sel_list (v : Int) (h0 : 0 ≤ v) (h6 : v < 6) (p q : Int) (h : v.toNat < [Value.int .i64 0, .int .i64 1, .int .i64 3, .int .i64 p, .int .i64 q, .int .i64 (-1)].length) : [Value.int .i64 0, .int .i64 1, .int .i64 3, .int .i64 p, .int .i64 q, .int .i64 (-1)][v.toNat] = .int .i64 (sel p q v) := by
  rcases (by omega : v = 0 ∨ v = 1 ∨ v = 2 ∨ v = 3 ∨ v = 4 ∨ v = 5) with rfl | rfl | rfl | rfl | rfl | rfl <;> rfl
theorem isInt (l : List Value) (i : Nat) (h : i < l.length) (hl : ∀ y ∈ l, ∃ m, y = Value.int .i64 m) : ∃ m, l[i] = Value.int .i64 m := hl _ (List.getElem_mem ..)
theorem ret4 {n x m : Int} {b : Bool} {v3 : Value} (h : v3 = .int .i64 m) : Ending.returned (.tuple #[.int .i64 n, .int .i64 x, v3, .bool b]) = Ending.returned (.tuple #[.int .i64 n, .int .i64 x, .int .i64 m, .bool b]) := by rw [h]

set_option maxHeartbeats 4000000 in
theorem c_DrawWordGrow {B : Nat} {a : Option Addr} {len cap : Nat} (w : World) (h : BytesAt B w a len cap) (hB : B ≤ w.heap.size) :
    Calls Try.prog 28 #[.slice a len cap] w fun e w' => ∃ (n x m : Int) (s : Bool), e = .returned (.tuple #[.int .i64 n, .int .i64 x, .int .i64 m, .bool s]) ∧ Below B w w' := by
  go_enter Try.func28, Try.ntmps28
  go_wp2_with fail
  refine (c_l17Open _ h hB).mono ?_
  rintro e w1 ⟨rfl, hR1, hB1⟩
  go_wp2_with fail
  refine (c_width _ hR1 (by omega)).mono ?_
  rintro e w2 ⟨n, rfl, hn1, hn2, hR2, hO2⟩
  generalize w.heap.size = R at *
  have HB : Hid (Below B w w2) := hB1.trans (hO2.below hR1.le (by have := hR1.lt; have := hR1.le; omega))
  have hle := hR1.le
  clear hO2 hR1 hB1 h
  go_wp2_with fail
  have hlt := hR2.lt
  have hw16 : wrap64 (16 - n) = 16 - n := IntWalk.wrap64_in _ (by omega)
  have hw17 : wrap64 (17 - n) = 17 - n := IntWalk.wrap64_in _ (by omega)
  go_region_with (first
    | (go_at_call 38; refine (c_word (B := B) (p := 2) _ _ (by first | exact hR2 | exact hR2.alloc _) (by omega) (by omega) (by omega)).mono ?_; rintro e w3 ⟨x, rfl, hx1, hx2, hR3, hO3⟩; have hlt3 := hR3.lt; first | (have hL : LitAt w2.heap.size _ R w3 := (LitAt.new (w := w2.drew) _ hlt).only hO3; have hLc := hL.2.2; have hOa : Only R w2 w3 := (Only.undrew (Only.alloc (Only.refl R w2.drew) _)).trans hO3) | (have hL := (LitAt.new (w := w2) _ hlt).only (Only.undrew hO3); have hLc := hL.2.2; have hOa : Only R w2 w3 := (Only.alloc (Only.refl R w2) _).trans (Only.undrew hO3)) | (have hOa : Only R w2 w3 := Only.undrew hO3))
    | (go_at_call 39; refine (k_pick (B := B) _ _ (by first | assumption | exact RdTo.alloc (by assumption) _) (by omega)).mono ?_; rintro e w4 ⟨v, rfl, hv, hR4, hO4⟩; have hvv := hv (by omega); have hlt4 := hR4.lt; have hsel := sel_at v (by omega) (by omega); first | (have hL := LitAt.only (by assumption) hO4; have hLc := hL.2.2; have hOa : Only R w2 w4 := Only.trans (by assumption) hO4) | (have hL := (LitAt.new _ (RdTo.lt (by assumption))).only hO4; have hLc := hL.2.2; have hOa : Only R w2 w4 := (Only.alloc (by assumption) _).trans hO4) | (have hOa : Only R w2 w4 := Only.trans (by assumption) hO4)))
  all_goals
    have HF : Hid (Below B w _) := HB.out.trans ((by assumption : Only R w2 _).below hle (by omega))
    go_wp2
    refine bodyPost_ret (results_tmp4 rfl _ _ _) rfl ?_
    simp [Act.put]
    exact ⟨isInt _ _ _ (by simp), by first | exact HF.out | exact HF.out.alloc (by omega) _⟩
end Go.Proofs.Ytbgdgfkpijlbnaa
