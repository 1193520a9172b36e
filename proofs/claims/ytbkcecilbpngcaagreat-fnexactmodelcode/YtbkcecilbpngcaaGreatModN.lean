/-
  Places and sorts of binds: the program.
-/
import Derived.Test.YtbkcecilbpngcaaGreatRows
import Derived.Test.YtbkcecilbpngcaaGreatPaA
import Derived.Test.YtbkcecilbpngcaaGreatNodeM
import Derived.Test.YtbkcecilbpngcaaGreatNames
import Derived.Test.YtbkcecilbpngcaaGreatNodeL
import Derived.Test.YtbkcecilbpngcaaGreatResP
import Derived.Test.YtbkcecilbpngcaaGreatNSortI
import Derived.Test.YtbkcecilbpngcaaGreatKSortP
import Derived.Test.YtbkcecilbpngcaaGreatModD
import Derived.Test.YtbkcecilbpngcaaGreatModA
import Derived.Test.YtbkcecilbpngcaaGreatModB
import Derived.Test.YtbkcecilbpngcaaGreatModE
import Derived.Test.YtbkcecilbpngcaaGreatModF
import Derived.Test.YtbkcecilbpngcaaGreatModG
import Derived.Test.YtbkcecilbpngcaaGreatModH
import Derived.Test.YtbkcecilbpngcaaGreatModI
import Derived.Test.YtbkcecilbpngcaaGreatModJ
import Derived.WalkKit
import Derived.ProofKit
import Derived.OpenShut
import Derived.WalkSpells
import Derived.WalkLawsBesides
import Derived.Outline
import Derived.BigQuiet
import Derived.Handy
import Derived.LoopTactic
import Derived.Deep.Light
import Derived.Deep.RegionWith
import Derived.Deep.RegionHeld3
import Derived.Deep.DeepCutAuto
import Derived.Lib.Hide
namespace Go.Proofs.YtbkcecilbpngcaaGreat
open Go.ChangeShapes Go.WideShapes Go.ChangeAt Go.RowKit
set_option linter.unusedVariables false
set_option maxRecDepth 100000


def plcN (ns : List ND) (b : BD) : Prop := (0 ≤ b.st ∧ b.st < ns.length) ∧ (ns.getD b.st.toNat default).kind = 36 ∧ (0 ≤ b.nd ∧ b.nd < ns.length)
set_option maxHeartbeats 4000000 in
theorem c_bindPlacesOk {B : Nat} {a0 : Option Addr} {l0 p0 : Nat} {ns : List ND} (b : BD) (w : World) (hBw : B ≤ w.heap.size) (h : NodesAt B w a0 l0 p0 ns) :
    Calls Tryz.prog 67 #[.slice a0 l0 p0, .agg #[.int .i64 b.st, .int .i64 b.nd]] w fun e w' => BoolIs (plcN ns b) e ∧ Below w.heap.size w w' := by
  have HN := Go.Lib.hid h
  have hl0 : ns.length = l0 := h.1
  have hml : l0 ≤ maxLen := Nat.le_trans h.2.1 h.2.2.1
  clear h
  obtain ⟨st, nd⟩ := b
  simp only
  by_cases hs : 0 ≤ st ∧ st < l0
  · have hd1 : decide (0 ≤ st ∧ st < (l0 : Int)) = true := by simpa using hs
    obtain ⟨p, rfl⟩ : ∃ p : Nat, st = p := ⟨st.toNat, by omega⟩
    have hpl : (p : Int) < l0 := hs.2
    obtain ⟨kd, b, off, hkd, rfl, hbB, c0⟩ := node_kind HN.out (show p < l0 by omega)
    have HKD := Go.Lib.hid (show (ns.getD (p : Int).toNat default).kind = kd by simpa using hkd)
    have hbw : b < w.heap.size := Nat.lt_of_lt_of_le hbB hBw
    clear hkd hs
    by_cases h36 : kd = 36
    · subst h36
      by_cases hn : 0 ≤ nd ∧ nd < l0
      · have hd2 : decide (0 ≤ nd ∧ nd < (l0 : Int)) = true := by simpa using hn
        have HY := Go.Lib.hid (show plcN ns ⟨p, nd⟩ from ⟨⟨by simp only; omega, by simp only; omega⟩, HKD.out, ⟨hn.1, by simp only; omega⟩⟩)
        clear hn
        go_enter Tryz.func67, Tryz.ntmps67
        go_wp2_with (first | (go_at_call 70; refine (c_placeOk hml _ _).mono ?_; (first | rw [hd1] | rw [hd2]); rintro e w' ⟨rfl, rfl⟩))
        go_ret
        exact ⟨BoolIs.yes HY.out, by go_grown⟩
      · have hd2 : decide (0 ≤ nd ∧ nd < (l0 : Int)) = false := by simpa using hn
        have HNO := Go.Lib.hid (show ¬ plcN ns ⟨p, nd⟩ from fun hh => hn ⟨hh.2.2.1, by have := hh.2.2.2; simp only at this; omega⟩)
        clear hn
        go_enter Tryz.func67, Tryz.ntmps67
        go_wp2_with (first | (go_at_call 70; refine (c_placeOk hml _ _).mono ?_; (first | rw [hd1] | rw [hd2]); rintro e w' ⟨rfl, rfl⟩))
        go_ret
        exact ⟨BoolIs.no HNO.out, by go_grown⟩
    · have q1 : (kd == 36) = false := by simpa using h36
      have HNO := Go.Lib.hid (show ¬ plcN ns ⟨p, nd⟩ from fun hh => h36 (HKD.out.symm.trans hh.2.1))
      have hd2 := hd1
      go_enter Tryz.func67, Tryz.ntmps67
      go_wp2_with (first | (go_at_call 70; refine (c_placeOk hml _ _).mono ?_; (first | rw [hd1] | rw [hd2]); rintro e w' ⟨rfl, rfl⟩))
      go_ret
      exact ⟨BoolIs.no HNO.out, by go_grown⟩
  · have hd1 : decide (0 ≤ st ∧ st < (l0 : Int)) = false := by simpa using hs
    have hd2 := hd1
    have HNO := Go.Lib.hid (show ¬ plcN ns ⟨st, nd⟩ from fun hh => hs ⟨hh.1.1, by have := hh.1.2; simp only at this; omega⟩)
    clear hs
    go_enter Tryz.func67, Tryz.ntmps67
    go_wp2_with (first | (go_at_call 70; refine (c_placeOk hml _ _).mono ?_; (first | rw [hd1] | rw [hd2]); rintro e w' ⟨rfl, rfl⟩))
    go_ret
    exact ⟨BoolIs.no HNO.out, by go_grown⟩

def isrtN (ns : List ND) (p r : Nat) : Prop := sortAt ns r = sortAt ns p ∨ sortAt ns r = (0, (sortAt ns p).2)
theorem cell2_0 (W : World) (cs : Array Value) (t : TypeId) (C : Obj) (i : Nat) : ((W.alloc (.cells cs t)).alloc C).cell? ⟨W.heap.size, i, none⟩ = cs[i]? :=
  (Below.cell (w := W.alloc (.cells cs t)) (B := (W.alloc (.cells cs t)).heap.size) (by go_grown) (p := ⟨W.heap.size, i, none⟩) (alloc_ltS _ _)).trans (World.cell?_alloc_new _ _ _ _)
set_option maxHeartbeats 4000000 in
theorem c_initSortOk {B : Nat} {a0 : Option Addr} {l0 p0 : Nat} {ns : List ND} (p r : Nat) (w : World) (hBw : B ≤ w.heap.size) (h : NodesAt B w a0 l0 p0 ns) (hp : p < l0) (hr : r < l0) :
    Calls Tryz.prog 68 #[.slice a0 l0 p0, .agg #[.int .i64 p, .int .i64 r]] w fun e w' => BoolIs (isrtN ns p r) e ∧ Below w.heap.size w w' := by
  obtain ⟨i1, w1, b, off, hs3, rfl, hbB, d6, d7⟩ := node_sort h hp
  obtain ⟨i2, w2, b2, o2, hs4, e2, -, f6, f7⟩ := node_sort h hr
  simp only [Option.some.injEq, Addr.mk.injEq, and_true] at e2
  obtain ⟨rfl, rfl⟩ := e2
  have HS3 := Go.Lib.hid hs3
  have HS4 := Go.Lib.hid hs4
  have hbw : b < w.heap.size := Nat.lt_of_lt_of_le hbB hBw
  have hpl : (p : Int) < l0 := by omega
  have hrl : (r : Int) < l0 := by omega
  clear hs3 hs4 h
  go_enter Tryz.func68, Tryz.ntmps68
  go_upto_region 1 with fail
  refine code_gen (R := fun wb => wb.cell? ⟨w.heap.size, 0, none⟩ = some (.int .i64 p) ∧ wb.cell? ⟨w.heap.size, 1, none⟩ = some (.int .i64 r) ∧ w.heap.size < wb.heap.size ∧ Below w.heap.size w wb) ⟨by simp, by simp, by simp, by go_grown⟩ ?_
  rintro wb ⟨z0, z1, hlb, hBb⟩
  have hbb : b < wb.heap.size := by omega
  have c6 := keepc hBb hbw d6
  have c7 := keepc hBb hbw d7
  have k6 := keepc hBb hbw f6
  have k7 := keepc hBb hbw f7
  have HBB := Go.Lib.hid hBb
  clear hBb d6 d7 f6 f7
  go_cut [5, 6] (fun s5 s6 wx => ∃ g5 g6 : Nat, s5 = .pointer (some ⟨g5, 0, none⟩) ∧ s6 = .pointer (some ⟨g6, 0, none⟩) ∧ g5 < wx.heap.size ∧ g6 < wx.heap.size ∧ wx.cell? ⟨g5, 0, none⟩ = some (.int .i64 i1) ∧ wx.cell? ⟨g5, 1, none⟩ = some (.int .i64 w1) ∧ wx.cell? ⟨g6, 0, none⟩ = some (.int .i64 i2) ∧ wx.cell? ⟨g6, 1, none⟩ = some (.int .i64 w2) ∧ Below wb.heap.size wb wx)
  case first =>
    go_region_held3 (fun w' => w'.cell? ⟨w.heap.size, 0, none⟩ = some (.int .i64 p) ∧ w'.cell? ⟨w.heap.size, 1, none⟩ = some (.int .i64 r) ∧ w'.cell? ⟨b, off + p * 9 + 6, none⟩ = some (.int .i64 i1) ∧ w'.cell? ⟨b, off + p * 9 + 7, none⟩ = some (.int .i64 w1) ∧ w'.cell? ⟨b, off + r * 9 + 6, none⟩ = some (.int .i64 i2) ∧ w'.cell? ⟨b, off + r * 9 + 7, none⟩ = some (.int .i64 w2)) (exact ⟨keepc (by go_grown) hlb z0, keepc (by go_grown) hlb z1, keepc (by go_grown) hbb c6, keepc (by go_grown) hbb c7, keepc (by go_grown) hbb k6, keepc (by go_grown) hbb k7⟩) (fail)
    all_goals
      go_wp2_with fail
      go_meet
      refine ⟨_, _, rfl, rfl, ?_, ?_, ?_, ?_, ?_, ?_, ?_⟩
      all_goals first | (simp; done) | (simp; omega) | (go_grown; done) | exact cell2_0 _ _ _ _ _
  case rest =>
    obtain ⟨g5, g6, rfl, rfl, l5, l6, a0, a1, b0, b1, hB⟩ := hcut
    have HB := Go.Lib.hid (HBB.out.trans (hB.mono HBB.out.size))
    clear hB z0 z1 c6 c7 k6 k7
    go_upto_region 2 with fail
    by_cases hi : i2 = i1
    · subst hi
      by_cases hw : w2 = w1
      · subst hw
        have HY := Go.Lib.hid (show isrtN ns p r from .inl (by rw [HS3.out, HS4.out]))
        refine wp_region_held_drew (S := (fun w' => w'.cell? ⟨g5, 0, none⟩ = some (.int .i64 i2) ∧ w'.cell? ⟨g5, 1, none⟩ = some (.int .i64 w2) ∧ w'.cell? ⟨g6, 0, none⟩ = some (.int .i64 i2) ∧ w'.cell? ⟨g6, 1, none⟩ = some (.int .i64 w2))) (by kernel_rfl) ?_ (fun hHeld => ?_)
        · exact ⟨keepc (by go_grown) l5 a0, keepc (by go_grown) l5 a1, keepc (by go_grown) l6 b0, keepc (by go_grown) l6 b1⟩
        refine tL 0 (some 19) ?_
        refine tL 1 (some 20) ?_
        refine tL 2 (some 21) ?_
        refine tL 3 (some 22) ?_
        refine tU 4 (some 23) ?_
        refine tU 5 (some 24) ?_
        refine tU 6 (some 25) ?_
        refine tU 7 (some 26) ?_
        refine tU 8 (some 27) ?_
        refine tL 9 (some 28) ?_
        refine tL 10 (some 4) ?_
        refine wpAnyH_done (by kernel_rfl) ?_ _
        clear hHeld
        go_wp2_with fail
        go_ret
        exact ⟨BoolIs.yes HY.out, HB.out.trans (Below.mono (show Below wc.heap.size wc _ by go_grown) HB.out.size)⟩
      · have q1 : (w2 == w1) = false := by simpa using hw
        have HNO := Go.Lib.hid (show ¬ isrtN ns p r from fun hh => by
          rcases hh with h1 | h1 <;> rw [HS3.out, HS4.out] at h1 <;> simp only [Prod.mk.injEq] at h1 <;> exact hw h1.2)
        refine wp_region_held_drew (S := (fun w' => w'.cell? ⟨g5, 0, none⟩ = some (.int .i64 i2) ∧ w'.cell? ⟨g5, 1, none⟩ = some (.int .i64 w1) ∧ w'.cell? ⟨g6, 0, none⟩ = some (.int .i64 i2) ∧ w'.cell? ⟨g6, 1, none⟩ = some (.int .i64 w2))) (by kernel_rfl) ?_ (fun hHeld => ?_)
        · exact ⟨keepc (by go_grown) l5 a0, keepc (by go_grown) l5 a1, keepc (by go_grown) l6 b0, keepc (by go_grown) l6 b1⟩
        refine tL 0 (some 19) ?_
        refine tL 1 (some 20) ?_
        refine tL 2 (some 21) ?_
        refine tL 3 (some 22) ?_
        refine tL 4 (some 23) ?_
        refine tL 5 (some 24) ?_
        refine tL 6 (some 25) ?_
        refine wpAnyH_ready (rs := [7]) (by kernel_rfl) (by simp) ?_
        refine AllReadyH.cons (o := _) rfl (fun K hK => ?_) AllReadyH.nil
        go_simp
        refine (c_wordSort _ _).mono ?_; rintro e w' ⟨rfl, rfl⟩
        (try go_wp2_with fail)
        (try clear hHeld)
        refine hK.out _ _ ?_ (fun hHeld => ?_)
        · exact ⟨keepc (by go_grown) l5 a0, keepc (by go_grown) l5 a1, keepc (by go_grown) l6 b0, keepc (by go_grown) l6 b1⟩
        clear hK K
        (try simp only [Act.put, List.setIfInBounds_toArray, List.set_cons_zero, List.set_cons_succ])
        refine tL 8 (some 27) ?_
        refine tL 9 (some 28) ?_
        refine tL 10 (some 4) ?_
        refine wpAnyH_done (by kernel_rfl) ?_ _
        clear hHeld
        go_wp2_with fail
        go_ret
        exact ⟨BoolIs.no HNO.out, HB.out.trans (Below.mono (show Below wc.heap.size wc _ by go_grown) HB.out.size)⟩
    · have q1 : (i2 == i1) = false := by simpa using hi
      by_cases hz : i2 = 0
      · subst hz
        by_cases hw : w2 = w1
        · subst hw
          have HY := Go.Lib.hid (show isrtN ns p r from .inr (by rw [HS3.out, HS4.out]))
          refine wp_region_held_drew (S := (fun w' => w'.cell? ⟨g5, 0, none⟩ = some (.int .i64 i1) ∧ w'.cell? ⟨g5, 1, none⟩ = some (.int .i64 w2) ∧ w'.cell? ⟨g6, 0, none⟩ = some (.int .i64 0) ∧ w'.cell? ⟨g6, 1, none⟩ = some (.int .i64 w2))) (by kernel_rfl) ?_ (fun hHeld => ?_)
          · exact ⟨keepc (by go_grown) l5 a0, keepc (by go_grown) l5 a1, keepc (by go_grown) l6 b0, keepc (by go_grown) l6 b1⟩
          refine tL 0 (some 19) ?_
          refine tL 1 (some 20) ?_
          refine tL 2 (some 21) ?_
          refine tL 3 (some 22) ?_
          refine tL 4 (some 23) ?_
          refine tL 5 (some 24) ?_
          refine tL 6 (some 25) ?_
          refine wpAnyH_ready (rs := [7]) (by kernel_rfl) (by simp) ?_
          refine AllReadyH.cons (o := _) rfl (fun K hK => ?_) AllReadyH.nil
          go_simp
          refine (c_wordSort _ _).mono ?_; rintro e w' ⟨rfl, rfl⟩
          (try go_wp2_with fail)
          (try clear hHeld)
          refine hK.out _ _ ?_ (fun hHeld => ?_)
          · exact ⟨keepc (by go_grown) l5 a0, keepc (by go_grown) l5 a1, keepc (by go_grown) l6 b0, keepc (by go_grown) l6 b1⟩
          clear hK K
          (try simp only [Act.put, List.setIfInBounds_toArray, List.set_cons_zero, List.set_cons_succ])
          refine tL 8 (some 27) ?_
          refine tL 9 (some 28) ?_
          refine tL 10 (some 4) ?_
          refine wpAnyH_done (by kernel_rfl) ?_ _
          clear hHeld
          go_wp2_with fail
          go_ret
          exact ⟨BoolIs.yes HY.out, HB.out.trans (Below.mono (show Below wc.heap.size wc _ by go_grown) HB.out.size)⟩
        · have q2 : (w2 == w1) = false := by simpa using hw
          have HNO := Go.Lib.hid (show ¬ isrtN ns p r from fun hh => by
            rcases hh with h1 | h1 <;> rw [HS3.out, HS4.out] at h1 <;> simp only [Prod.mk.injEq] at h1 <;> exact hw h1.2)
          refine wp_region_held_drew (S := (fun w' => w'.cell? ⟨g5, 0, none⟩ = some (.int .i64 i1) ∧ w'.cell? ⟨g5, 1, none⟩ = some (.int .i64 w1) ∧ w'.cell? ⟨g6, 0, none⟩ = some (.int .i64 0) ∧ w'.cell? ⟨g6, 1, none⟩ = some (.int .i64 w2))) (by kernel_rfl) ?_ (fun hHeld => ?_)
          · exact ⟨keepc (by go_grown) l5 a0, keepc (by go_grown) l5 a1, keepc (by go_grown) l6 b0, keepc (by go_grown) l6 b1⟩
          refine tL 0 (some 19) ?_
          refine tL 1 (some 20) ?_
          refine tL 2 (some 21) ?_
          refine tL 3 (some 22) ?_
          refine tL 4 (some 23) ?_
          refine tL 5 (some 24) ?_
          refine tL 6 (some 25) ?_
          refine wpAnyH_ready (rs := [7]) (by kernel_rfl) (by simp) ?_
          refine AllReadyH.cons (o := _) rfl (fun K hK => ?_) AllReadyH.nil
          go_simp
          refine (c_wordSort _ _).mono ?_; rintro e w' ⟨rfl, rfl⟩
          (try go_wp2_with fail)
          (try clear hHeld)
          refine hK.out _ _ ?_ (fun hHeld => ?_)
          · exact ⟨keepc (by go_grown) l5 a0, keepc (by go_grown) l5 a1, keepc (by go_grown) l6 b0, keepc (by go_grown) l6 b1⟩
          clear hK K
          (try simp only [Act.put, List.setIfInBounds_toArray, List.set_cons_zero, List.set_cons_succ])
          refine tL 8 (some 27) ?_
          refine tL 9 (some 28) ?_
          refine tL 10 (some 4) ?_
          refine wpAnyH_done (by kernel_rfl) ?_ _
          clear hHeld
          go_wp2_with fail
          go_ret
          exact ⟨BoolIs.no HNO.out, HB.out.trans (Below.mono (show Below wc.heap.size wc _ by go_grown) HB.out.size)⟩
      · have q2 : (i2 == 0) = false := by simpa using hz
        have HNO := Go.Lib.hid (show ¬ isrtN ns p r from fun hh => by
          rcases hh with h1 | h1 <;> rw [HS3.out, HS4.out] at h1 <;> simp only [Prod.mk.injEq] at h1
          · exact hi h1.1
          · exact hz h1.1)
        refine wp_region_held_drew (S := (fun w' => w'.cell? ⟨g5, 0, none⟩ = some (.int .i64 i1) ∧ w'.cell? ⟨g5, 1, none⟩ = some (.int .i64 w1) ∧ w'.cell? ⟨g6, 0, none⟩ = some (.int .i64 i2) ∧ w'.cell? ⟨g6, 1, none⟩ = some (.int .i64 w2))) (by kernel_rfl) ?_ (fun hHeld => ?_)
        · exact ⟨keepc (by go_grown) l5 a0, keepc (by go_grown) l5 a1, keepc (by go_grown) l6 b0, keepc (by go_grown) l6 b1⟩
        refine tL 0 (some 19) ?_
        refine tL 1 (some 20) ?_
        refine tL 2 (some 21) ?_
        refine tL 3 (some 22) ?_
        refine tL 4 (some 23) ?_
        refine tL 5 (some 24) ?_
        refine tL 6 (some 25) ?_
        refine wpAnyH_ready (rs := [7]) (by kernel_rfl) (by simp) ?_
        refine AllReadyH.cons (o := _) rfl (fun K hK => ?_) AllReadyH.nil
        go_simp
        refine (c_wordSort _ _).mono ?_; rintro e w' ⟨rfl, rfl⟩
        (try go_wp2_with fail)
        (try clear hHeld)
        refine hK.out _ _ ?_ (fun hHeld => ?_)
        · exact ⟨keepc (by go_grown) l5 a0, keepc (by go_grown) l5 a1, keepc (by go_grown) l6 b0, keepc (by go_grown) l6 b1⟩
        clear hK K
        (try simp only [Act.put, List.setIfInBounds_toArray, List.set_cons_zero, List.set_cons_succ])
        refine tL 8 (some 27) ?_
        refine tL 9 (some 28) ?_
        refine tL 10 (some 4) ?_
        refine wpAnyH_done (by kernel_rfl) ?_ _
        clear hHeld
        go_wp2_with fail
        go_ret
        exact ⟨BoolIs.no HNO.out, HB.out.trans (Below.mono (show Below wc.heap.size wc _ by go_grown) HB.out.size)⟩

end Go.Proofs.YtbkcecilbpngcaaGreat
