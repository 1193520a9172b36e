/-
  What is drawn for words: numbers within bounds, whatever the code.
-/
import Derived.Test.YtbgdgfkpijlbnaaRows
import Derived.Test.YtbgdgfkpijlbnaaMath
import Derived.Test.YtbgdgfkpijlbnaaBase
import Derived.Test.YtbgdgfkpijlbnaaDraw
import Derived.WalkKit
import Derived.ProofKit
import Derived.OpenShut
import Derived.WalkSpells
import Derived.WalkLawsBesides
import Derived.Outline
import Derived.BigQuiet
namespace Go.Proofs.Ytbgdgfkpijlbnaa
open Go.ChangeShapes Go.WideShapes Go.ChangeAt Go.RowKit
set_option linter.unusedVariables false

theorem results_tmp4 {fn : Func} {t u v x : Tmp} (h : fn.results = #[.tmp t, .tmp u, .tmp v, .tmp x]) (tmps : Array Value) (P : Program) (w : World) :
    (results fn tmps).run P w = .ok (.tuple #[tmps.getD t undef, tmps.getD u undef, tmps.getD v undef, tmps.getD x undef]) w := by
  simp [results, h]

theorem c_DrawWordTwo {B : Nat} {a : Option Addr} {len cap : Nat} (w : World) (h : BytesAt B w a len cap) (hB : B ≤ w.heap.size) :
    Calls Try.prog 16 #[.slice a len cap] w fun e w' => ∃ k n x y : Int, e = .returned (.tuple #[.int .i64 k, .int .i64 n, .int .i64 x, .int .i64 y]) ∧ -1 ≤ n ∧ n ≤ 17 ∧ -1 ≤ x ∧ x ≤ 65536 ∧ -1 ≤ y ∧ y ≤ 65536 ∧ Below B w w' := by
  go_enter Try.func16, Try.ntmps16
  go_wp2_with (go_at_call 36; refine (c_l17Open _ h hB).mono ?_; rintro e w1 ⟨rfl, hR1, hB1⟩)
  refine (c_width _ hR1 (by omega)).mono ?_
  rintro e w2 ⟨n, rfl, hn1, hn2, hR2, hB2⟩
  generalize w.heap.size = R at *
  go_wp2_with fail
  refine (c_word _ _ hR2 (by omega) (by omega) (by omega)).mono ?_
  rintro e w3 ⟨x, rfl, hx1, hx2, hR3, hB3⟩
  go_wp2_with fail
  refine (c_word _ _ hR3 (by omega) (by omega) (by omega)).mono ?_
  rintro e w4 ⟨y, rfl, hy1, hy2, hR4, hB4⟩
  go_wp2_with fail
  refine (k_pick _ _ hR4 (by omega)).mono ?_
  rintro e w5 ⟨v5, rfl, hv5, hR5, hB5, -⟩
  go_wp2_with fail
  all_goals
    refine (k_pick _ _ hR5 (by omega)).mono ?_
    rintro e w6 ⟨v6, rfl, hv6, hR6, hB6, -⟩
    have HB : Hid (Below B w w6) := hB1.trans (hB2.trans (hB3.trans (hB4.trans (hB5.trans hB6))))
    clear hB1 hB2 hB3 hB4 hB5 hB6 hR1 hR2 hR3 hR4 hR5 hR6
    have hv := hv6 (by omega)
    go_wp2
    refine bodyPost_ret (results_tmp4 rfl _ _ _) rfl ⟨_, _, _, _, rfl, ?_⟩
    exact ⟨by omega, by omega, by omega, by omega, by omega, by omega, HB.out⟩

theorem c_DrawWordJoin {B : Nat} {a : Option Addr} {len cap : Nat} (w : World) (h : BytesAt B w a len cap) (hB : B ≤ w.heap.size) :
    Calls Try.prog 24 #[.slice a len cap] w fun e w' => ∃ n x u y : Int, e = .returned (.tuple #[.int .i64 n, .int .i64 x, .int .i64 u, .int .i64 y]) ∧ Below B w w' := by
  go_enter Try.func24, Try.ntmps24
  go_wp2_with (go_at_call 36; refine (c_l17Open _ h hB).mono ?_; rintro e w1 ⟨rfl, hR1, hB1⟩)
  refine (c_width _ hR1 (by omega)).mono ?_
  rintro e w2 ⟨n, rfl, hn1, hn2, hR2, hB2⟩
  generalize w.heap.size = R at *
  go_wp2_with fail
  refine (c_width _ hR2 (by omega)).mono ?_
  rintro e w3 ⟨u, rfl, hu1, hu2, hR3, hB3⟩
  go_wp2_with fail
  refine (k_pick _ _ hR3 (by omega)).mono ?_
  rintro e w4 ⟨v4, rfl, hv4, hR4, hB4, -⟩
  go_wp2_with fail
  · refine (k_pick _ _ hR4 (by omega)).mono ?_
    rintro e w5 ⟨v5, rfl, hv5, hR5, hB5, -⟩
    have hv := hv5 (by omega)
    have HB : Hid (Below B w w5) := hB1.trans (hB2.trans (hB3.trans (hB4.trans hB5)))
    clear hB1 hB2 hB3 hB4 hB5 hR1 hR2 hR3 hR4
    go_wp2_with fail
    refine (c_word _ _ hR5 (by omega) (by omega) (by omega)).mono ?_
    rintro e w6 ⟨x, rfl, hx1, hx2, hR6, hB6⟩
    go_wp2_with fail
    refine (c_word _ _ hR6 (by omega) (by omega) (by omega)).mono ?_
    rintro e w7 ⟨y, rfl, hy1, hy2, hR7, hB7⟩
    have HB2 : Hid (Below B w w7) := HB.out.trans (hB6.trans hB7)
    clear HB hB6 hB7 hR5 hR6 hR7
    go_wp2
    exact bodyPost_ret (results_tmp4 rfl _ _ _) rfl ⟨_, _, _, _, rfl, HB2.out⟩
  · have HB : Hid (Below B w w4) := hB1.trans (hB2.trans (hB3.trans hB4))
    clear hB1 hB2 hB3 hB4 hR1 hR2 hR3
    refine (c_word _ _ hR4 (by omega) (by omega) (by omega)).mono ?_
    rintro e w6 ⟨x, rfl, hx1, hx2, hR6, hB6⟩
    go_wp2_with fail
    refine (c_word _ _ hR6 (by omega) (by omega) (by omega)).mono ?_
    rintro e w7 ⟨y, rfl, hy1, hy2, hR7, hB7⟩
    have HB2 : Hid (Below B w w7) := HB.out.trans (hB6.trans hB7)
    clear HB hB6 hB7 hR4 hR6 hR7
    go_wp2
    exact bodyPost_ret (results_tmp4 rfl _ _ _) rfl ⟨_, _, _, _, rfl, HB2.out⟩
end Go.Proofs.Ytbgdgfkpijlbnaa
