/-
  For every input the law 'FnExactSortBits' of the laws' package returns true, and its arguments read afterwards as they read before.
  Conditions: none beside those of the given row.
-/
import Derived.Test.YtdeoefanfdmdfaaRows
import Derived.Test.YtdeoefanfdmdfaaMath
import Derived.Test.YtdeoefanfdmdfaaBase
import Derived.Test.YtdeoefanfdmdfaaSortS
import Derived.Test.YtdeoefanfdmdfaaSortI
import Derived.WalkSpells
import Derived.WalkLawsBesides
import Derived.BigQuiet
import Derived.WalkKit
import Derived.ProofKit
import Derived.OpenShut
import Derived.ShutString
import Derived.ChangeOld
import Derived.Below
import Derived.Lib.SmallJoins
namespace Go.Proofs.Ytdeoefanfdmdfaa.fnExactSortBits
open Go.ChangeShapes Go.WideShapes Go.ChangeAt Go.RowKit Go.Joins
open Go.ChangeMaps (open_string shut_string)
set_option linter.unusedVariables false

theorem own : ownKnob Try.prog.godebug = none := by kernel_rfl
theorem laidOut : laidOutB Try.prog = true := by kernel_rfl

theorem walk {H : Type} {enc : TypeId × Value → H} {base : Nat} (v0 : Value) (d0 : DataW H) (p0 : List MemPlace) (W : World) (hv0 : Value.okWide Try.prog W .any base 23 v0) (h0 : DataW.Trod enc Try.prog W 0 (fun _ => true) true 23 v0 d0 p0) :
    Calls Try.prog 5 #[v0] W fun e w' => e = .returned (.bool true) ∧ Below W.heap.size W w' := by
  obtain ⟨c0, c1, y0, y1, m, rfl, rfl, rfl, hy0, hy1⟩ := open_agg2 Try.underlying23 (by kernel_rfl) (by kernel_rfl) hv0 h0
  obtain ⟨i, e0, rfl, wi⟩ := DataW.trod_int Try.underlying3 hy0
  obtain ⟨n, e1, rfl, wn⟩ := DataW.trod_int Try.underlying3 hy1
  simp at e0 e1
  subst e0 e1
  clear hv0 h0 hy0 hy1
  go_enter Try.func5, Try.ntmps5
  go_wp2_with fail
  refine (c_toSort _ _ _).mono ?_
  rintro e w1 ⟨rfl, hB1⟩
  have HB1 : Hid (Below (W.alloc (.cells #[.int .i64 i, .int .i64 n] 23)).heap.size (W.alloc (.cells #[.int .i64 i, .int .i64 n] 23)) w1) := hB1
  clear hB1
  go_wp2_with fail
  refine (c_SortBitsS _ _ wn _).mono ?_
  rintro e w2 ⟨rfl, hB2⟩
  have HB2 : Hid (Below (W.alloc (.cells #[.int .i64 i, .int .i64 n] 23)).heap.size (W.alloc (.cells #[.int .i64 i, .int .i64 n] 23)) w2) := bstep HB1.out (Nat.le_refl _) hB2
  have d0 := HB2.out.cell (p := ⟨W.heap.size, 0, none⟩) (alloc_ltS _ _)
  have d1 := HB2.out.cell (p := ⟨W.heap.size, 1, none⟩) (alloc_ltS _ _)
  clear hB2
  go_wp2_with fail
  refine (c_toSort _ _ _).mono ?_
  rintro e w3 ⟨rfl, hB3⟩
  go_wp2_with fail
  refine (c_SortBitsI _ _ _).mono ?_
  rintro e w4 ⟨rfl, hB4⟩
  have HB4 : Hid (Below W.heap.size W w4) := (((Below.refl _ _).alloc (Nat.le_refl _) _).trans (HB2.out.mono (Nat.le_of_lt (alloc_ltS _ _)))).trans ((bstep hB3 (Nat.le_refl _) hB4).mono (Nat.le_trans (Nat.le_of_lt (alloc_ltS _ _)) HB2.out.size))
  clear hB3 hB4 d0 d1
  go_wp2
  go_ret
  exact ⟨rfl, HB4.out⟩

set_option maxRecDepth 100000 in
theorem lifted (os : Os) (started : os.Started) (H : Type) (enc : TypeId × Value → H) :
    ReturnsInHanded {} Try.checked os 5 .any (Rows.fnExactSortBitsSpec.pre6 enc Try.prog Try.f5 Rows.fnExactSortBitsRow.domain false) (Rows.fnExactSortBitsSpec.post enc Try.prog Try.f5 false true false false) := by
  refine returnsInHanded_of_change (C := Try.checked) own started (by kernel_rfl) Try.func5
    (ChangeSpec.witness6 (enc := enc) (C := Try.checked) false ⟨#[], #[.agg #[.int .i64 0, .int .i64 0]], []⟩ 8 (by kernel_rfl) (by kernel_rfl) (by kernel_rfl) (by kernel_rfl)) ?_
  intro W base args ds gs before hval0 hW hcnd _
  have hval : ∀ (j : Nat) t v, Try.f5.params[j]? = some t → args[j]? = some v → Value.okWide Try.prog W .any base t v := hval0
  have hW' := hW
  obtain ⟨p, q, hA0, hV, rfl, hfz, hnd⟩ := hW
  have hA : DataW.TrodAll enc Try.prog W 0 (fun _ => true) true Try.f5.params.toList args.toList ds p := hA0
  rw [Try.params5] at hA hval
  obtain ⟨v0, vs0, d0, ds0, p0, q0, hargs, rfl, rfl, h0, r0⟩ := trodAll_cons hA
  obtain ⟨rfl, rfl, rfl⟩ := trodAll_nil r0
  obtain rfl : args = #[v0] := by cases args; simp_all
  obtain ⟨rfl, rfl⟩ := trodVars_none hV
  have lt0 : ∀ x ∈ p0, x.block < W.heap.size := by obtain ⟨m, hm⟩ := h0; exact DataW.trod_lt m _ _ _ hm
  clear hA0 hval0
  refine (walk v0 d0 p0 W (hval 0 23 v0 rfl rfl) h0).mono fun e W' ⟨he, bel⟩ => ?_
  subst he
  exact ⟨_, rfl, _, _, _, [], _, [], hW', trodAll_mk1 (shut_bool Try.underlying4 _), (trodAll_cons_mk (Below.trod laidOut (by kernel_rfl) (of_decide_eq_true (by kernel_rfl)) h0 bel lt0) trodAll_mk0), rfl, bel.frame _, fun h => by cases h⟩

theorem over : Rows.fnExactSortBitsRow.holds Try.pinned (OpenSpec.ofChange Rows.fnExactSortBitsSpec) :=
  OpenClaim.holds_of_wide 5 Try.f5 rfl rfl rfl rfl rfl rfl rfl ⟨rfl, rfl, rfl, rfl, rfl⟩ rfl rfl rfl rfl rfl (by kernel_rfl) Try.func5 (by kernel_rfl)
    (of_decide_eq_true (by kernel_rfl)) (by unfold Func.isWrapper; first | (rw [if_pos (by decide +kernel)]; kernel_rfl) | (rw [if_neg (by decide +kernel)]; exact ⟨rfl, rfl⟩))
    (fun os started H enc _ => lifted os started H enc)

theorem proved : Rows.FnExactSortBitsSaid := over
end Go.Proofs.Ytdeoefanfdmdfaa.fnExactSortBits
