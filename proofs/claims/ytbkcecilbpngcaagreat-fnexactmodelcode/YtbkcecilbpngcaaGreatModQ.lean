/-
  The code of a model: both.
-/
import Derived.Test.YtbkcecilbpngcaaGreatRows
import Derived.Test.YtbkcecilbpngcaaGreatPaA
import Derived.Test.YtbkcecilbpngcaaGreatNodeM
import Derived.Test.YtbkcecilbpngcaaGreatNames
import Derived.Test.YtbkcecilbpngcaaGreatNodeL
import Derived.Test.YtbkcecilbpngcaaGreatResP
import Derived.Test.YtbkcecilbpngcaaGreatNSortI
import Derived.Test.YtbkcecilbpngcaaGreatKSortP
import Derived.Test.YtbkcecilbpngcaaGreatModD
import Derived.Test.YtbkcecilbpngcaaGreatModA
import Derived.Test.YtbkcecilbpngcaaGreatModB
import Derived.Test.YtbkcecilbpngcaaGreatModC
import Derived.Test.YtbkcecilbpngcaaGreatModE
import Derived.Test.YtbkcecilbpngcaaGreatModF
import Derived.Test.YtbkcecilbpngcaaGreatModG
import Derived.Test.YtbkcecilbpngcaaGreatModH
import Derived.Test.YtbkcecilbpngcaaGreatModI
import Derived.Test.YtbkcecilbpngcaaGreatModJ
import Derived.Test.YtbkcecilbpngcaaGreatMapB
import Derived.Test.YtbkcecilbpngcaaGreatMapT
import Derived.Test.YtbkcecilbpngcaaGreatModK
import Derived.Test.YtbkcecilbpngcaaGreatModM
import Derived.Test.YtbkcecilbpngcaaGreatModN
import Derived.Test.YtbkcecilbpngcaaGreatModO
import Derived.Test.YtbkcecilbpngcaaGreatModP
import Derived.WalkKit
import Derived.ProofKit
import Derived.OpenShut
import Derived.WalkSpells
import Derived.WalkLawsBesides
import Derived.Outline
import Derived.BigQuiet
import Derived.Handy
import Derived.LoopTactic
import Derived.Deep.Light
import Derived.Deep.RegionWith
import Derived.Deep.RegionHeld3
import Derived.Deep.DeepCutAuto
import Derived.Lib.Hide
namespace Go.Proofs.YtbkcecilbpngcaaGreat
open Go.ChangeShapes Go.WideShapes Go.ChangeAt Go.RowKit
set_option linter.unusedVariables false
set_option maxRecDepth 100000


def manyN (M : MD) : Prop := 60 < M.ns.length ∨ 60 < M.is.length ∨ 60 < M.xs.length ∨ 4 < M.bads.length ∨ 4 < M.holds.length
theorem manyN_iff {B : Nat} {w : World} {s0 s1 s2 s3 s4 : SL} {M : MD} (h : ModelAt B w s0 s1 s2 s3 s4 M) : manyN M ↔ tooMany s0 s1 s2 s3 s4 := by
  unfold manyN tooMany
  rw [h.ns.1, h.is.1, h.xs.1, h.bads.1, h.holds.1]
/-- The code of a model. -/
inductive CodeIs (M : MD) : Int → Prop
  | many (h : manyN M) : CodeIs M 1
  | node (h1 : ¬ manyN M) (h2 : ¬ nodesGood M.ns) : CodeIs M 2
  | twice (h1 : ¬ manyN M) (h2 : nodesGood M.ns) (h3 : twiceN M) : CodeIs M 3
  | bind (h1 : ¬ manyN M) (h2 : nodesGood M.ns) (h3 : ¬ twiceN M) (h4 : ¬ bindsN M) : CodeIs M 4
  | prop (h1 : ¬ manyN M) (h2 : nodesGood M.ns) (h3 : ¬ twiceN M) (h4 : bindsN M) (h5 : ¬ (propsOk M.ns M.bads ∧ propsOk M.ns M.holds)) : CodeIs M 5
  | big (h1 : ¬ manyN M) (h2 : nodesGood M.ns) (h3 : ¬ twiceN M) (h4 : bindsN M) (h5 : propsOk M.ns M.bads ∧ propsOk M.ns M.holds) (h6 : 8 < allBits 36 M.ns ∨ 5 < allBits 35 M.ns) : CodeIs M 6
  | ok (h1 : ¬ manyN M) (h2 : nodesGood M.ns) (h3 : ¬ twiceN M) (h4 : bindsN M) (h5 : propsOk M.ns M.bads ∧ propsOk M.ns M.holds) (h6 : ¬ (8 < allBits 36 M.ns ∨ 5 < allBits 35 M.ns)) : CodeIs M 0
theorem CodeIs.inj {M : MD} {c d : Int} (h : CodeIs M c) (k : CodeIs M d) : c = d := by
  cases h <;> cases k <;> first | rfl | (exfalso; simp_all; done)
def CodeP (M : MD) (w : World) (e : Ending) (w' : World) : Prop := ∃ c, e = .returned (.int .i64 c) ∧ CodeIs M c ∧ Below w.heap.size w w'

set_option maxHeartbeats 8000000 in
theorem c_ModelCodeI {B : Nat} {s0 s1 s2 s3 s4 : SL} {M : MD} (w : World) (hBw : B ≤ w.heap.size) (h : ModelAt B w s0 s1 s2 s3 s4 M) :
    Calls Tryz.prog 9 #[.agg (mcells s0 s1 s2 s3 s4).toArray] w (CodeP M w) := by
  have HMA := Go.Lib.hid h
  clear h
  simp only [mcells]
  go_enter Tryz.func9, Tryz.ntmps9
  go_upto_region 1 with fail
  refine code_gen (R := fun wb => Boxed s0 s1 s2 s3 s4 w wb) (Boxed.new _ _ _ _ _ _ _) ?_
  intro w0 hbox
  have HX0 := Go.Lib.hid hbox
  clear hbox
  obtain ⟨hlt, x0, x1, x2, x3, x4, hBx⟩ := HX0.out
  have hBk := Nat.le_trans hBw hBx.size
  have HM0 := Go.Lib.hid (HMA.out.below (hBx.mono hBw))
  clear hBx
  go_wp2_with fail
  refine (c_hasTooMany (B := B) (s0 := s0) (s1 := s1) (s2 := s2) (s3 := s3) (s4 := s4) w0 HM0.out).mono ?_
  rintro e w1 ⟨hb, hB⟩
  have HX1 := Go.Lib.hid (HX0.out.below hB)
  clear hB x0 x1 x2 x3 x4 hlt hBk HM0
  obtain ⟨hlt, x0, x1, x2, x3, x4, hBx⟩ := HX1.out
  have hBk := Nat.le_trans hBw hBx.size
  have HM1 := Go.Lib.hid (HMA.out.below (hBx.mono hBw))
  clear hBx
  by_cases hP0 : tooMany s0 s1 s2 s3 s4
  · obtain rfl := boolIs_t hP0 hb
    have HC := Go.Lib.hid (show CodeIs M 1 from .many ((manyN_iff HMA.out).2 hP0))
    clear hb hP0
    go_wp2_with fail
    go_ret
    exact ⟨_, rfl, HC.out, HX1.out.2.2.2.2.2.2⟩
  obtain rfl := boolIs_f hP0 hb
  have HP0 := Go.Lib.hid hP0
  clear hb hP0
  go_wp2_with fail
  refine (c_hasBadNode (B := B) w1 hBk (HM1.out).ns).mono ?_
  rintro e w2 ⟨hb, hB⟩
  have HX2 := Go.Lib.hid (HX1.out.below hB)
  clear hB x0 x1 x2 x3 x4 hlt hBk HM1
  obtain ⟨hlt, x0, x1, x2, x3, x4, hBx⟩ := HX2.out
  have hBk := Nat.le_trans hBw hBx.size
  have HM2 := Go.Lib.hid (HMA.out.below (hBx.mono hBw))
  clear hBx
  by_cases hP1 : ¬ nodesGood M.ns
  · obtain rfl := boolIs_t hP1 hb
    have HC := Go.Lib.hid (show CodeIs M 2 from .node (fun h => HP0.out ((manyN_iff HMA.out).1 h)) hP1)
    clear hb hP1
    go_wp2_with fail
    go_ret
    exact ⟨_, rfl, HC.out, HX2.out.2.2.2.2.2.2⟩
  obtain rfl := boolIs_f hP1 hb
  have HP1 := Go.Lib.hid (show nodesGood M.ns from Classical.not_not.1 hP1)
  clear hb hP1
  have HP1' := Go.Lib.hid (show ¬ manyN M from fun h => HP0.out ((manyN_iff HMA.out).1 h))
  have h60 : s0.len ≤ 60 := Nat.le_of_not_lt (fun h => HP0.out (.inl h))
  go_wp2_with fail
  refine (c_hasNameTwice (B := B) w2 hBk (HM2.out).ns).mono ?_
  rintro e w3 ⟨hb, hB⟩
  have HX3 := Go.Lib.hid (HX2.out.below hB)
  clear hB x0 x1 x2 x3 x4 hlt hBk HM2
  obtain ⟨hlt, x0, x1, x2, x3, x4, hBx⟩ := HX3.out
  have hBk := Nat.le_trans hBw hBx.size
  have HM3 := Go.Lib.hid (HMA.out.below (hBx.mono hBw))
  clear hBx
  by_cases hP2 : namesTwice M.ns
  · obtain rfl := boolIs_t hP2 hb
    have HC := Go.Lib.hid (show CodeIs M 3 from .twice HP1'.out HP1.out (.inl hP2))
    clear hb hP2
    go_wp2_with fail
    go_ret
    exact ⟨_, rfl, HC.out, HX3.out.2.2.2.2.2.2⟩
  obtain rfl := boolIs_f hP2 hb
  have HP2 := Go.Lib.hid hP2
  clear hb hP2
  go_wp2_with fail
  refine (c_hasStateTwice (B := B) w3 hBk (HM3.out).is).mono ?_
  rintro e w4 ⟨hb, hB⟩
  have HX4 := Go.Lib.hid (HX3.out.below hB)
  clear hB x0 x1 x2 x3 x4 hlt hBk HM3
  obtain ⟨hlt, x0, x1, x2, x3, x4, hBx⟩ := HX4.out
  have hBk := Nat.le_trans hBw hBx.size
  have HM4 := Go.Lib.hid (HMA.out.below (hBx.mono hBw))
  clear hBx
  by_cases hP3 : againN M.is
  · obtain rfl := boolIs_t hP3 hb
    have HC := Go.Lib.hid (show CodeIs M 3 from .twice HP1'.out HP1.out (.inr (.inl hP3)))
    clear hb hP3
    go_wp2_with fail
    go_ret
    exact ⟨_, rfl, HC.out, HX4.out.2.2.2.2.2.2⟩
  obtain rfl := boolIs_f hP3 hb
  have HP3 := Go.Lib.hid hP3
  clear hb hP3
  go_wp2_with fail
  refine (c_hasStateTwice (B := B) w4 hBk (HM4.out).xs).mono ?_
  rintro e w5 ⟨hb, hB⟩
  have HX5 := Go.Lib.hid (HX4.out.below hB)
  clear hB x0 x1 x2 x3 x4 hlt hBk HM4
  obtain ⟨hlt, x0, x1, x2, x3, x4, hBx⟩ := HX5.out
  have hBk := Nat.le_trans hBw hBx.size
  have HM5 := Go.Lib.hid (HMA.out.below (hBx.mono hBw))
  clear hBx
  by_cases hP4 : againN M.xs
  · obtain rfl := boolIs_t hP4 hb
    have HC := Go.Lib.hid (show CodeIs M 3 from .twice HP1'.out HP1.out (.inr (.inr hP4)))
    clear hb hP4
    go_wp2_with fail
    go_ret
    exact ⟨_, rfl, HC.out, HX5.out.2.2.2.2.2.2⟩
  obtain rfl := boolIs_f hP4 hb
  have HP4 := Go.Lib.hid hP4
  clear hb hP4
  have HP2' := Go.Lib.hid (show ¬ twiceN M from fun h => by rcases h with h | h | h; exact HP2.out h; exact HP3.out h; exact HP4.out h)
  go_wp2_with fail
  refine (c_hasBadInit (B := B) (s0 := s0) (s1 := s1) (s2 := s2) (s3 := s3) (s4 := s4) w5 hBk HM5.out HP1.out h60).mono ?_
  rintro e w6 ⟨hb, hB⟩
  have HX6 := Go.Lib.hid (HX5.out.below hB)
  clear hB x0 x1 x2 x3 x4 hlt hBk HM5
  obtain ⟨hlt, x0, x1, x2, x3, x4, hBx⟩ := HX6.out
  have hBk := Nat.le_trans hBw hBx.size
  have HM6 := Go.Lib.hid (HMA.out.below (hBx.mono hBw))
  clear hBx
  by_cases hP5 : ¬ initsOk M
  · obtain rfl := boolIs_t hP5 hb
    have HC := Go.Lib.hid (show CodeIs M 4 from .bind HP1'.out HP1.out HP2'.out (fun h => hP5 ((bindsN_iff M).1 h).1))
    clear hb hP5
    go_wp2_with fail
    go_ret
    exact ⟨_, rfl, HC.out, HX6.out.2.2.2.2.2.2⟩
  obtain rfl := boolIs_f hP5 hb
  have HP5 := Go.Lib.hid hP5
  clear hb hP5
  go_wp2_with fail
  refine (c_hasBadNext (B := B) (s0 := s0) (s1 := s1) (s2 := s2) (s3 := s3) (s4 := s4) w6 hBk HM6.out HP1.out).mono ?_
  rintro e w7 ⟨hb, hB⟩
  have HX7 := Go.Lib.hid (HX6.out.below hB)
  clear hB x0 x1 x2 x3 x4 hlt hBk HM6
  obtain ⟨hlt, x0, x1, x2, x3, x4, hBx⟩ := HX7.out
  have hBk := Nat.le_trans hBw hBx.size
  have HM7 := Go.Lib.hid (HMA.out.below (hBx.mono hBw))
  clear hBx
  by_cases hP6 : ¬ nextsOk M
  · obtain rfl := boolIs_t hP6 hb
    have HC := Go.Lib.hid (show CodeIs M 4 from .bind HP1'.out HP1.out HP2'.out (fun h => hP6 ((bindsN_iff M).1 h).2))
    clear hb hP6
    go_wp2_with fail
    go_ret
    exact ⟨_, rfl, HC.out, HX7.out.2.2.2.2.2.2⟩
  obtain rfl := boolIs_f hP6 hb
  have HP6 := Go.Lib.hid hP6
  clear hb hP6
  have HP3' := Go.Lib.hid (show bindsN M from (bindsN_iff M).2 ⟨Classical.not_not.1 HP5.out, Classical.not_not.1 HP6.out⟩)
  go_wp2_with fail
  refine (c_hasBadProp (B := B) w7 hBk (HM7.out).ns (HM7.out).bads).mono ?_
  rintro e w8 ⟨hb, hB⟩
  have HX8 := Go.Lib.hid (HX7.out.below hB)
  clear hB x0 x1 x2 x3 x4 hlt hBk HM7
  obtain ⟨hlt, x0, x1, x2, x3, x4, hBx⟩ := HX8.out
  have hBk := Nat.le_trans hBw hBx.size
  have HM8 := Go.Lib.hid (HMA.out.below (hBx.mono hBw))
  clear hBx
  by_cases hP7 : ¬ propsOk M.ns M.bads
  · obtain rfl := boolIs_t hP7 hb
    have HC := Go.Lib.hid (show CodeIs M 5 from .prop HP1'.out HP1.out HP2'.out HP3'.out (fun h => hP7 h.1))
    clear hb hP7
    go_wp2_with fail
    go_ret
    exact ⟨_, rfl, HC.out, HX8.out.2.2.2.2.2.2⟩
  obtain rfl := boolIs_f hP7 hb
  have HP7 := Go.Lib.hid hP7
  clear hb hP7
  go_wp2_with fail
  refine (c_hasBadProp (B := B) w8 hBk (HM8.out).ns (HM8.out).holds).mono ?_
  rintro e w9 ⟨hb, hB⟩
  have HX9 := Go.Lib.hid (HX8.out.below hB)
  clear hB x0 x1 x2 x3 x4 hlt hBk HM8
  obtain ⟨hlt, x0, x1, x2, x3, x4, hBx⟩ := HX9.out
  have hBk := Nat.le_trans hBw hBx.size
  have HM9 := Go.Lib.hid (HMA.out.below (hBx.mono hBw))
  clear hBx
  by_cases hP8 : ¬ propsOk M.ns M.holds
  · obtain rfl := boolIs_t hP8 hb
    have HC := Go.Lib.hid (show CodeIs M 5 from .prop HP1'.out HP1.out HP2'.out HP3'.out (fun h => hP8 h.2))
    clear hb hP8
    go_wp2_with fail
    go_ret
    exact ⟨_, rfl, HC.out, HX9.out.2.2.2.2.2.2⟩
  obtain rfl := boolIs_f hP8 hb
  have HP8 := Go.Lib.hid hP8
  clear hb hP8
  have HP4' := Go.Lib.hid (show propsOk M.ns M.bads ∧ propsOk M.ns M.holds from ⟨Classical.not_not.1 HP7.out, Classical.not_not.1 HP8.out⟩)
  go_wp2_with fail
  refine (c_kindBits (B := B) 36 w9 hBk (HM9.out).ns h60).mono ?_
  rintro e w10 ⟨rfl, hB⟩
  have HX10 := Go.Lib.hid (HX9.out.below hB)
  clear hB x0 x1 x2 x3 x4 hlt hBk HM9
  obtain ⟨hlt, x0, x1, x2, x3, x4, hBx⟩ := HX10.out
  have hBk := Nat.le_trans hBw hBx.size
  have HM10 := Go.Lib.hid (HMA.out.below (hBx.mono hBw))
  clear hBx
  by_cases hP9 : 8 < allBits 36 M.ns
  · have HC := Go.Lib.hid (show CodeIs M 6 from .big HP1'.out HP1.out HP2'.out HP3'.out HP4'.out (.inl hP9))
    go_wp2_with fail
    go_ret
    exact ⟨_, rfl, HC.out, HX10.out.2.2.2.2.2.2⟩
  go_wp2_with fail
  refine (c_kindBits (B := B) 35 w10 hBk (HM10.out).ns h60).mono ?_
  rintro e w11 ⟨rfl, hB⟩
  have HX11 := Go.Lib.hid (HX10.out.below hB)
  clear hB x0 x1 x2 x3 x4 hlt hBk HM10
  obtain ⟨hlt, x0, x1, x2, x3, x4, hBx⟩ := HX11.out
  have hBk := Nat.le_trans hBw hBx.size
  have HM11 := Go.Lib.hid (HMA.out.below (hBx.mono hBw))
  clear hBx
  by_cases hP10 : 5 < allBits 35 M.ns
  · have HC := Go.Lib.hid (show CodeIs M 6 from .big HP1'.out HP1.out HP2'.out HP3'.out HP4'.out (.inr hP10))
    go_wp2_with fail
    go_ret
    exact ⟨_, rfl, HC.out, HX11.out.2.2.2.2.2.2⟩
  have HC := Go.Lib.hid (show CodeIs M 0 from .ok HP1'.out HP1.out HP2'.out HP3'.out HP4'.out (fun h => by rcases h with h | h <;> omega))
  go_wp2_with fail
  go_ret
  exact ⟨_, rfl, HC.out, HX11.out.2.2.2.2.2.2⟩

set_option maxHeartbeats 8000000 in
theorem c_ModelCodeS {B : Nat} {s0 s1 s2 s3 s4 : SL} {M : MD} (w : World) (hBw : B ≤ w.heap.size) (h : ModelAt B w s0 s1 s2 s3 s4 M) :
    Calls Tryz.prog 7 #[.agg (mcells s0 s1 s2 s3 s4).toArray] w (CodeP M w) := by
  have HMA := Go.Lib.hid h
  clear h
  simp only [mcells]
  go_enter Tryz.func7, Tryz.ntmps7
  go_upto_region 1 with fail
  refine code_gen (R := fun wb => Boxed s0 s1 s2 s3 s4 w wb) (Boxed.new _ _ _ _ _ _ _) ?_
  intro w0 hbox
  have HX0 := Go.Lib.hid hbox
  clear hbox
  obtain ⟨hlt, x0, x1, x2, x3, x4, hBx⟩ := HX0.out
  have hBk := Nat.le_trans hBw hBx.size
  have HM0 := Go.Lib.hid (HMA.out.below (hBx.mono hBw))
  clear hBx
  by_cases h0 : 60 < s0.len
  · have j0 : ((60 : Int) < s0.len) = True := by simp; omega
    have HC := Go.Lib.hid (show CodeIs M 1 from .many ((manyN_iff HMA.out).2 (.inl h0)))
    go_wp2_with fail
    go_ret
    exact ⟨_, rfl, HC.out, HX0.out.2.2.2.2.2.2⟩
  have j0 : ((60 : Int) < s0.len) = False := by simp; omega
  by_cases h1 : 60 < s1.len
  · have j1 : ((60 : Int) < s1.len) = True := by simp; omega
    have HC := Go.Lib.hid (show CodeIs M 1 from .many ((manyN_iff HMA.out).2 (.inr (.inl h1))))
    go_wp2_with fail
    go_ret
    exact ⟨_, rfl, HC.out, HX0.out.2.2.2.2.2.2⟩
  have j1 : ((60 : Int) < s1.len) = False := by simp; omega
  by_cases h2 : 60 < s2.len
  · have j2 : ((60 : Int) < s2.len) = True := by simp; omega
    have HC := Go.Lib.hid (show CodeIs M 1 from .many ((manyN_iff HMA.out).2 (.inr (.inr (.inl h2)))))
    go_wp2_with fail
    go_ret
    exact ⟨_, rfl, HC.out, HX0.out.2.2.2.2.2.2⟩
  have j2 : ((60 : Int) < s2.len) = False := by simp; omega
  by_cases h3 : 4 < s3.len
  · have j3 : ((4 : Int) < s3.len) = True := by simp; omega
    have HC := Go.Lib.hid (show CodeIs M 1 from .many ((manyN_iff HMA.out).2 (.inr (.inr (.inr (.inl h3))))))
    go_wp2_with fail
    go_ret
    exact ⟨_, rfl, HC.out, HX0.out.2.2.2.2.2.2⟩
  have j3 : ((4 : Int) < s3.len) = False := by simp; omega
  by_cases h4 : 4 < s4.len
  · have j4 : ((4 : Int) < s4.len) = True := by simp; omega
    have HC := Go.Lib.hid (show CodeIs M 1 from .many ((manyN_iff HMA.out).2 (.inr (.inr (.inr (.inr (h4)))))))
    go_wp2_with fail
    go_ret
    exact ⟨_, rfl, HC.out, HX0.out.2.2.2.2.2.2⟩
  have j4 : ((4 : Int) < s4.len) = False := by simp; omega
  have HP1' := Go.Lib.hid (show ¬ manyN M from fun h => by rcases (manyN_iff HMA.out).1 h with h | h | h | h | h <;> omega)
  have h60 : s0.len ≤ 60 := by omega
  go_wp2_with fail
  refine (c_l2Nodes (B := B) (s0 := s0) (s1 := s1) (s2 := s2) (s3 := s3) (s4 := s4) w0 hBk HM0.out).mono ?_
  rintro e w1 ⟨hb, hB⟩
  have HX1 := Go.Lib.hid (HX0.out.below hB)
  clear hB x0 x1 x2 x3 x4 hlt hBk HM0
  obtain ⟨hlt, x0, x1, x2, x3, x4, hBx⟩ := HX1.out
  have hBk := Nat.le_trans hBw hBx.size
  have HM1 := Go.Lib.hid (HMA.out.below (hBx.mono hBw))
  clear hBx
  by_cases hP0 : nodesGood M.ns
  rotate_left
  · obtain rfl := boolIs_f hP0 hb
    have HC := Go.Lib.hid (show CodeIs M 2 from .node HP1'.out hP0)
    clear hb hP0
    go_wp2_with fail
    go_ret
    exact ⟨_, rfl, HC.out, HX1.out.2.2.2.2.2.2⟩
  obtain rfl := boolIs_t hP0 hb
  have HP1 := Go.Lib.hid hP0
  clear hb hP0
  clear h0 h1 h2 h3 h4 j0 j1 j2 j3 j4
  go_wp2_with fail
  refine (c_l2Twice (B := B) (s0 := s0) (s1 := s1) (s2 := s2) (s3 := s3) (s4 := s4) w1 hBk HM1.out).mono ?_
  rintro e w2 ⟨hb, hB⟩
  have HX2 := Go.Lib.hid (HX1.out.below hB)
  clear hB x0 x1 x2 x3 x4 hlt hBk HM1
  obtain ⟨hlt, x0, x1, x2, x3, x4, hBx⟩ := HX2.out
  have hBk := Nat.le_trans hBw hBx.size
  have HM2 := Go.Lib.hid (HMA.out.below (hBx.mono hBw))
  clear hBx
  by_cases hP1 : twiceN M
  · obtain rfl := boolIs_t hP1 hb
    have HC := Go.Lib.hid (show CodeIs M 3 from .twice HP1'.out HP1.out hP1)
    clear hb hP1
    go_wp2_with fail
    go_ret
    exact ⟨_, rfl, HC.out, HX2.out.2.2.2.2.2.2⟩
  obtain rfl := boolIs_f hP1 hb
  have HP2' := Go.Lib.hid hP1
  clear hb hP1
  go_wp2_with fail
  refine (c_l2Binds (B := B) (s0 := s0) (s1 := s1) (s2 := s2) (s3 := s3) (s4 := s4) w2 hBk HM2.out HP1.out h60).mono ?_
  rintro e w3 ⟨hb, hB⟩
  have HX3 := Go.Lib.hid (HX2.out.below hB)
  clear hB x0 x1 x2 x3 x4 hlt hBk HM2
  obtain ⟨hlt, x0, x1, x2, x3, x4, hBx⟩ := HX3.out
  have hBk := Nat.le_trans hBw hBx.size
  have HM3 := Go.Lib.hid (HMA.out.below (hBx.mono hBw))
  clear hBx
  by_cases hP2 : bindsN M
  rotate_left
  · obtain rfl := boolIs_f hP2 hb
    have HC := Go.Lib.hid (show CodeIs M 4 from .bind HP1'.out HP1.out HP2'.out hP2)
    clear hb hP2
    go_wp2_with fail
    go_ret
    exact ⟨_, rfl, HC.out, HX3.out.2.2.2.2.2.2⟩
  obtain rfl := boolIs_t hP2 hb
  have HP3' := Go.Lib.hid hP2
  clear hb hP2
  go_wp2_with fail
  refine (c_l2Props (B := B) (s0 := s0) (s1 := s1) (s2 := s2) (s3 := s3) (s4 := s4) w3 hBk HM3.out (HM3.out).bads).mono ?_
  rintro e w4 ⟨hb, hB⟩
  have HX4 := Go.Lib.hid (HX3.out.below hB)
  clear hB x0 x1 x2 x3 x4 hlt hBk HM3
  obtain ⟨hlt, x0, x1, x2, x3, x4, hBx⟩ := HX4.out
  have hBk := Nat.le_trans hBw hBx.size
  have HM4 := Go.Lib.hid (HMA.out.below (hBx.mono hBw))
  clear hBx
  by_cases hP3 : propsOk M.ns M.bads
  rotate_left
  · obtain rfl := boolIs_f hP3 hb
    have HC := Go.Lib.hid (show CodeIs M 5 from .prop HP1'.out HP1.out HP2'.out HP3'.out (fun h => hP3 h.1))
    clear hb hP3
    go_wp2_with fail
    go_ret
    exact ⟨_, rfl, HC.out, HX4.out.2.2.2.2.2.2⟩
  obtain rfl := boolIs_t hP3 hb
  have HP3 := Go.Lib.hid hP3
  clear hb hP3
  go_wp2_with fail
  refine (c_l2Props (B := B) (s0 := s0) (s1 := s1) (s2 := s2) (s3 := s3) (s4 := s4) w4 hBk HM4.out (HM4.out).holds).mono ?_
  rintro e w5 ⟨hb, hB⟩
  have HX5 := Go.Lib.hid (HX4.out.below hB)
  clear hB x0 x1 x2 x3 x4 hlt hBk HM4
  obtain ⟨hlt, x0, x1, x2, x3, x4, hBx⟩ := HX5.out
  have hBk := Nat.le_trans hBw hBx.size
  have HM5 := Go.Lib.hid (HMA.out.below (hBx.mono hBw))
  clear hBx
  by_cases hP4 : propsOk M.ns M.holds
  rotate_left
  · obtain rfl := boolIs_f hP4 hb
    have HC := Go.Lib.hid (show CodeIs M 5 from .prop HP1'.out HP1.out HP2'.out HP3'.out (fun h => hP4 h.2))
    clear hb hP4
    go_wp2_with fail
    go_ret
    exact ⟨_, rfl, HC.out, HX5.out.2.2.2.2.2.2⟩
  obtain rfl := boolIs_t hP4 hb
  have HP4 := Go.Lib.hid hP4
  clear hb hP4
  have HP4' := Go.Lib.hid (show propsOk M.ns M.bads ∧ propsOk M.ns M.holds from ⟨HP3.out, HP4.out⟩)
  go_wp2_with fail
  refine (c_l2All (B := B) (s0 := s0) (s1 := s1) (s2 := s2) (s3 := s3) (s4 := s4) 36 w5 hBk HM5.out h60).mono ?_
  rintro e w6 ⟨rfl, hB⟩
  have HX6 := Go.Lib.hid (HX5.out.below hB)
  clear hB x0 x1 x2 x3 x4 hlt hBk HM5
  obtain ⟨hlt, x0, x1, x2, x3, x4, hBx⟩ := HX6.out
  have hBk := Nat.le_trans hBw hBx.size
  have HM6 := Go.Lib.hid (HMA.out.below (hBx.mono hBw))
  clear hBx
  by_cases hP5 : 8 < allBits 36 M.ns
  · have HC := Go.Lib.hid (show CodeIs M 6 from .big HP1'.out HP1.out HP2'.out HP3'.out HP4'.out (.inl hP5))
    go_wp2_with fail
    go_ret
    exact ⟨_, rfl, HC.out, HX6.out.2.2.2.2.2.2⟩
  go_wp2_with fail
  refine (c_l2All (B := B) (s0 := s0) (s1 := s1) (s2 := s2) (s3 := s3) (s4 := s4) 35 w6 hBk HM6.out h60).mono ?_
  rintro e w7 ⟨rfl, hB⟩
  have HX7 := Go.Lib.hid (HX6.out.below hB)
  clear hB x0 x1 x2 x3 x4 hlt hBk HM6
  obtain ⟨hlt, x0, x1, x2, x3, x4, hBx⟩ := HX7.out
  have hBk := Nat.le_trans hBw hBx.size
  have HM7 := Go.Lib.hid (HMA.out.below (hBx.mono hBw))
  clear hBx
  by_cases hP6 : 5 < allBits 35 M.ns
  · have HC := Go.Lib.hid (show CodeIs M 6 from .big HP1'.out HP1.out HP2'.out HP3'.out HP4'.out (.inr hP6))
    go_wp2_with fail
    go_ret
    exact ⟨_, rfl, HC.out, HX7.out.2.2.2.2.2.2⟩
  have HC := Go.Lib.hid (show CodeIs M 0 from .ok HP1'.out HP1.out HP2'.out HP3'.out HP4'.out (fun h => by rcases h with h | h <;> omega))
  go_wp2_with fail
  go_ret
  exact ⟨_, rfl, HC.out, HX7.out.2.2.2.2.2.2⟩
end Go.Proofs.YtbkcecilbpngcaaGreat
