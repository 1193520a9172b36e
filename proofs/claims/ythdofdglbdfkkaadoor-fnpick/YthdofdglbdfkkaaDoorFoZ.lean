/-
  The closures that make sets in a forest.
-/
import Derived.Test.YthdofdglbdfkkaaDoorRows
import Derived.Test.YthdofdglbdfkkaaDoorPaA
import Derived.Test.YthdofdglbdfkkaaDoorFoV
import Derived.WalkKit
import Derived.ProofKit
import Derived.OpenShut
import Derived.WalkSpells
import Derived.WalkLawsBesides
import Derived.Outline
import Derived.BigQuiet
import Derived.Handy
import Derived.LoopTactic
import Derived.Deep.Light
import Derived.Deep.RegionWith
import Derived.Deep.RegionHeld3
import Derived.Deep.DeepCutAuto
import Derived.Lib.Hide
import Derived.Maps.OwnRows
import Derived.Deep.Onto
import Derived.OneCell
import Derived.StillTailTactics
import Derived.Deep.AppendLies
import Derived.Deep.RegionLaw
namespace Go.Proofs.YthdofdglbdfkkaaDoor
open Go.ChangeShapes Go.WideShapes Go.ChangeAt Go.RowKit Go.Maps Go.ChangeMaps
set_option linter.unusedVariables false
set_option maxRecDepth 100000

theorem kc {B : Nat} {w w' : World} {g o : Nat} {v : Value} (hb : Below B w w') (hg : g < B) (h : w.cell? ⟨g, o, none⟩ = some v) : w'.cell? ⟨g, o, none⟩ = some v := (hb.cell (p := ⟨g, o, none⟩) hg).trans h
theorem FStep.fbs {B fb mb pb : Nat} {v v1 : Value} {w w1 : World} (hs : FStep fb mb pb v w v1 w1) (hB : ∀ g, FB fb mb pb v g → B ≤ g) (hBw : B ≤ w.heap.size) : ∀ g, FB fb mb pb v1 g → B ≤ g := fun g hg => by
  rcases hg with h | h | h | h
  · exact hB g (.inl h)
  · exact hB g (.inr (.inl h))
  · exact hB g (.inr (.inr (.inl h)))
  · rcases hs.own g h with h1 | h1
    · exact hB g (.inr (.inr (.inr h1)))
    · omega
theorem fixc_none (b : Bool) (c : Int) : fixc (-1) b c = c := if_pos (by decide)
/-- A diagram in a captured variable's block. -/
structure CapB (B c : Nat) (vars : Int) (a : Option Addr) (len cap : Nat) (root : Int) (w : World) : Prop where
  lt : c < B
  c0 : w.cell? ⟨c, 0, none⟩ = some (.int .i64 vars)
  c1 : w.cell? ⟨c, 1, none⟩ = some (.slice a len cap)
  c2 : w.cell? ⟨c, 2, none⟩ = some (.int .i64 root)

set_option maxHeartbeats 4000000 in
theorem c_BddVar1 {vars : Int} {fb mb pb cb : Nat} {v : Value} (hv13 : vars ≤ 13) (i : Int) (hi : 0 ≤ i ∧ i < vars) (w : World) (h : ForestAt vars fb mb pb v [] 0 w) (hc : w.cell? ⟨cb, 0, none⟩ = some (.int .i64 i)) :
    Calls Tryd.prog 47 (#[.pointer (some ⟨fb, 0, none⟩)] ++ #[.pointer (some ⟨cb, 0, none⟩)]) w (SetQ vars fb mb pb v [] 0 30000 (fun c => decide (bitN c i = 1)) w) := by
  show Calls Tryd.prog 47 #[.pointer (some ⟨fb, 0, none⟩), .pointer (some ⟨cb, 0, none⟩)] w _
  have HP := Go.Lib.hid (c_put i 0 1 w h hv13 hi (InF.no _) (InF.yes _) (by rw [vAt_small (by decide)]; exact hi.2) (by rw [vAt_small (by decide)]; exact hi.2) (by decide))
  clear h
  go_enter Tryd.func47, Tryd.ntmps47
  go_wp2_with fail
  refine HP.out.mono ?_
  rintro e w1 ⟨p, v1, F1, rfl, hf, hp, hs⟩
  have HQ := Go.Lib.hid (And.intro hf (And.intro hp hs))
  clear hf hp hs HP
  go_wp2_with fail
  go_ret
  obtain ⟨hf, hp, hs⟩ := HQ.out
  obtain ⟨G, hG, hg⟩ := hp.ext
  exact ⟨p, v1, F1, 0, rfl, hf, ⟨G, hG⟩, hp.inn, fun c => by rw [hp.ev, evF_0, evF_1]; show _ = decide (bitN c i = 1); split <;> simp_all, hs, by rw [hG, List.length_append]; show 0 + _ ≤ 0 + 30000; omega, by omega⟩

set_option maxHeartbeats 4000000 in
theorem c_BddNot1 {vars : Int} {B fb mb pb cb : Nat} {v : Value} {a : Option Addr} {len cap : Nat} {ns : List BN} {root : Int} (w : World) (h : ForestAt vars fb mb pb v [] 0 w) (hB : ∀ g, FB fb mb pb v g → B ≤ g) (hBw : B ≤ w.heap.size) (hn : BnsAt B w a len cap ns) (hok : OkB vars ns root) (hc : CapB B cb vars a len cap root w) :
    Calls Tryd.prog 70 (#[.pointer (some ⟨fb, 0, none⟩)] ++ #[.pointer (some ⟨cb, 0, none⟩)]) w (SetQ vars fb mb pb v [] 0 30000 (fun c => !evF ns root c) w) := by
  show Calls Tryd.prog 70 #[.pointer (some ⟨fb, 0, none⟩), .pointer (some ⟨cb, 0, none⟩)] w _
  have HP := Go.Lib.hid (c_lay (B := B) root w h hB hBw hn hok (by decide))
  have hv13 : vars ≤ 13 := hok.hv.2
  have hv0 : 0 ≤ vars := hok.hv.1
  obtain ⟨-, x0, x1, x2⟩ := hc
  clear h hn hok hB
  go_enter Tryd.func70, Tryd.ntmps70
  go_wp2_with fail
  refine HP.out.mono ?_
  rintro e w1 ⟨p, v1, F1, rfl, hf, hG, hp, he, hs, hl⟩
  have HO := Go.Lib.hid (c_others hv0 hv13 p w1 hf hp (by simp at hl; omega) (by decide))
  have HQ := Go.Lib.hid (And.intro he (And.intro hs hl))
  have HG := Go.Lib.hid hG
  clear hf hG hp he hs hl HP x0 x1 x2
  go_wp2_with fail
  refine HO.out.mono ?_
  rintro e w2 ⟨p2, v2, F2, np2, rfl, hf2, ⟨G2, hG2⟩, hp2, he2, hs2, hl2, hn2⟩
  have HQ2 := Go.Lib.hid (And.intro hf2 (And.intro hp2 (And.intro he2 (And.intro hs2 (And.intro hl2 hn2)))))
  clear hf2 hp2 he2 hs2 hl2 hn2 hG2 HO
  go_wp2_with fail
  go_ret
  obtain ⟨hf2, hp2, he2, hs2, hl2, hn2⟩ := HQ2.out
  obtain ⟨he, hs, hl⟩ := HQ.out
  exact ⟨p2, v2, F2, np2, rfl, hf2, ⟨F2, rfl⟩, hp2, fun c => by rw [he2, he, fixc_none], hs.trans hs2, by simp at hl ⊢; omega, by omega⟩

set_option maxHeartbeats 4000000 in
theorem c_BddFix1 {vars : Int} {B fb mb pb cb ci cy : Nat} {v : Value} {a : Option Addr} {len cap : Nat} {ns : List BN} {root : Int} (i : Int) (yes : Bool) (w : World) (h : ForestAt vars fb mb pb v [] 0 w) (hB : ∀ g, FB fb mb pb v g → B ≤ g) (hBw : B ≤ w.heap.size) (hn : BnsAt B w a len cap ns) (hok : OkB vars ns root) (hc : CapB B cb vars a len cap root w)
    (hi : w.cell? ⟨ci, 0, none⟩ = some (.int .i64 i)) (hy : w.cell? ⟨cy, 0, none⟩ = some (.bool yes)) :
    Calls Tryd.prog 59 (#[.pointer (some ⟨fb, 0, none⟩)] ++ #[.pointer (some ⟨cb, 0, none⟩), .pointer (some ⟨ci, 0, none⟩), .pointer (some ⟨cy, 0, none⟩)]) w (SetQ vars fb mb pb v [] 0 30000 (fun c => evF ns root (fixc i yes c)) w) := by
  show Calls Tryd.prog 59 #[.pointer (some ⟨fb, 0, none⟩), .pointer (some ⟨cb, 0, none⟩), .pointer (some ⟨ci, 0, none⟩), .pointer (some ⟨cy, 0, none⟩)] w _
  have HP := Go.Lib.hid (c_layFixed (B := B) root i yes w h hB hBw hn hok (by decide))
  obtain ⟨-, x0, x1, x2⟩ := hc
  clear h hn hok hB
  go_enter Tryd.func59, Tryd.ntmps59
  go_wp2_with fail
  refine HP.out.mono ?_
  rintro e w1 ⟨p, v1, F1, rfl, hf, hG, hp, he, hs, hl⟩
  have HQ := Go.Lib.hid (And.intro hf (And.intro hp (And.intro he (And.intro hs hl))))
  have HG := Go.Lib.hid hG
  clear hf hG hp he hs hl HP x0 x1 x2
  go_wp2_with fail
  go_ret
  obtain ⟨hf, hp, he, hs, hl⟩ := HQ.out
  exact ⟨p, v1, F1, 0, rfl, hf, HG.out, hp, he, hs, by simp at hl ⊢; omega, by omega⟩

set_option maxHeartbeats 4000000 in
theorem c_BddFrom1 {vars : Int} {B fb mb pb cv cl : Nat} {v : Value} {a : Option Addr} {len cap : Nat} {codes : List Int} (hv : varsB vars = true) (w : World) (h : ForestAt vars fb mb pb v [] 0 w) (hBw : B ≤ w.heap.size) (hn : IntsAt B w a len cap codes) (hlen : len ≤ 256) (hx : ∀ x ∈ codes, 0 ≤ x)
    (hcv : w.cell? ⟨cv, 0, none⟩ = some (.int .i64 vars)) (hcl : w.cell? ⟨cl, 0, none⟩ = some (.slice a len cap)) :
    Calls Tryd.prog 63 (#[.pointer (some ⟨fb, 0, none⟩)] ++ #[.pointer (some ⟨cv, 0, none⟩), .pointer (some ⟨cl, 0, none⟩)]) w (SetQ vars fb mb pb v [] 0 30000 (fun c => codesF vars 0 codes c) w) := by
  show Calls Tryd.prog 63 #[.pointer (some ⟨fb, 0, none⟩), .pointer (some ⟨cv, 0, none⟩), .pointer (some ⟨cl, 0, none⟩)] w _
  obtain ⟨hv0, hv13⟩ := of_decide_eq_true hv
  have hpw : 2 ^ vars.toNat ≤ 8192 := Nat.le_trans (Nat.pow_le_pow_right (by decide) (show vars.toNat ≤ 13 by omega)) (by decide)
  have HP := Go.Lib.hid (c_layCodes hv13 vars.toNat [] 0 v 0 a len cap codes w h (by decide) (by omega) (hn.mono hBw) hlen hx (by show 0 + _ ≤ _; omega))
  have HPW := Go.Lib.hid hpw
  clear h hn hx hpw hv
  go_enter Tryd.func63, Tryd.ntmps63
  go_wp2_with fail
  refine HP.out.mono ?_
  rintro e w1 ⟨p, v1, F1, rfl, hf, hG, hp, he, hlv, hs, hl⟩
  have HQ := Go.Lib.hid (And.intro hf (And.intro hp (And.intro he (And.intro hs hl))))
  have HG := Go.Lib.hid hG
  clear hf hG hp he hs hl hlv HP
  go_wp2_with fail
  go_ret
  obtain ⟨hf, hp, he, hs, hl⟩ := HQ.out
  exact ⟨p, v1, F1, 0, rfl, hf, HG.out, hp, he, hs, by have := HPW.out; simp at hl ⊢; omega, by omega⟩

set_option maxHeartbeats 16000000 in
theorem c_pair1 {vars : Int} {B fb mb pb cr c1 c2 : Nat} {v : Value} {a1 : Option Addr} {len1 cap1 : Nat} {ns1 : List BN} {r1 : Int} {a2 : Option Addr} {len2 cap2 : Nat} {ns2 : List BN} {r2 : Int} (r : Int) (w : World) (h : ForestAt vars fb mb pb v [] 0 w) (hB : ∀ g, FB fb mb pb v g → B ≤ g) (hBw : B ≤ w.heap.size) (hn1 : BnsAt B w a1 len1 cap1 ns1) (hok1 : OkB vars ns1 r1) (hc1 : CapB B c1 vars a1 len1 cap1 r1 w) (hn2 : BnsAt B w a2 len2 cap2 ns2) (hok2 : OkB vars ns2 r2) (hc2 : CapB B c2 vars a2 len2 cap2 r2 w) (hr : isRule r) (ly : cr < B) (y0 : w.cell? ⟨cr, 0, none⟩ = some (.int .i64 r)) :
    Calls Tryd.prog 88 (#[.pointer (some ⟨fb, 0, none⟩)] ++ #[.pointer (some ⟨cr, 0, none⟩), .pointer (some ⟨c1, 0, none⟩), .pointer (some ⟨c2, 0, none⟩)]) w (SetQ vars fb mb pb v [] 0 30000 (fun c => rl r (evF ns1 r1 c) (evF ns2 r2 c)) w) := by
  show Calls Tryd.prog 88 #[.pointer (some ⟨fb, 0, none⟩), .pointer (some ⟨cr, 0, none⟩), .pointer (some ⟨c1, 0, none⟩), .pointer (some ⟨c2, 0, none⟩)] w _
  have HF := Go.Lib.hid h
  have HFB := Go.Lib.hid hB
  have HN1 := Go.Lib.hid hn1
  have HO1 := Go.Lib.hid hok1
  obtain ⟨l1, x10, x11, x12⟩ := hc1
  have HN2 := Go.Lib.hid hn2
  have HO2 := Go.Lib.hid hok2
  obtain ⟨l2, x20, x21, x22⟩ := hc2
  have hv13 : vars ≤ 13 := hok1.hv.2
  have hv0 : 0 ≤ vars := hok1.hv.1
  clear h hB hn1 hok1 hn2 hok2
  go_enter Tryd.func88, Tryd.ntmps88
  go_upto_region 1 with fail
  have HR := Go.Lib.hid hr
  clear hr
  refine wp_region_held_drew (S := (fun w' => w'.cell? ⟨cr, 0, none⟩ = some (.int .i64 r) ∧ w'.cell? ⟨c1, 0, none⟩ = some (.int .i64 vars) ∧ w'.cell? ⟨c1, 1, none⟩ = some (.slice a1 len1 cap1) ∧ w'.cell? ⟨c1, 2, none⟩ = some (.int .i64 r1) ∧ w'.cell? ⟨c2, 0, none⟩ = some (.int .i64 vars) ∧ w'.cell? ⟨c2, 1, none⟩ = some (.slice a2 len2 cap2) ∧ w'.cell? ⟨c2, 2, none⟩ = some (.int .i64 r2))) (by kernel_rfl) ?_ (fun hHeld => ?_)
  · first | exact ⟨y0, x10, x11, x12, x20, x21, x22⟩ | exact ⟨kc HQ.out ly y0, kc HQ.out l1 x10, kc HQ.out l1 x11, kc HQ.out l1 x12, kc HQ.out l2 x20, kc HQ.out l2 x21, kc HQ.out l2 x22⟩
  refine tL 0 (some 6) ?_
  refine tL 1 (some 7) ?_
  refine tL 2 (some 8) ?_
  refine tL 3 (some 9) ?_
  refine tL 5 (some 11) ?_
  refine tL 6 (some 12) ?_
  refine wpAnyH_ready (rs := [4]) (by kernel_rfl) (by simp) ?_
  refine AllReadyH.cons (o := _) rfl (fun K hK => ?_) AllReadyH.nil
  go_simp
  refine (c_lay (B := B) r1 w.drew (HF.out.keep (fun _ _ => rfl)) HFB.out hBw (HN1.out.below (Below.refl B w).drew) HO1.out (by decide)).mono ?_
  rintro e w1 ⟨p1, v1, F1, rfl, hf, hG, hp, he, hs, hl⟩
  have HF1 := Go.Lib.hid hf
  have HG1 := Go.Lib.hid hG
  have HP1 := Go.Lib.hid hp
  have HE1 := Go.Lib.hid he
  have HS1 := Go.Lib.hid (show FStep fb mb pb v w v1 w1 from ⟨hs.os, hs.tape, hs.output, hs.size, hs.block, hs.own⟩)
  have HL1 := Go.Lib.hid (show F1.length ≤ 600 from by simp at hl; omega)
  have HQ := Go.Lib.hid (HS1.out.below hBw HFB.out)
  clear hf hG hp he hs hl
  (try go_wp2_with fail)
  (try clear hHeld)
  refine hK.out _ _ ?_ (fun hHeld => ?_)
  · first | exact ⟨y0, x10, x11, x12, x20, x21, x22⟩ | exact ⟨kc HQ.out ly y0, kc HQ.out l1 x10, kc HQ.out l1 x11, kc HQ.out l1 x12, kc HQ.out l2 x20, kc HQ.out l2 x21, kc HQ.out l2 x22⟩
  clear hK K
  (try simp only [Act.put, List.setIfInBounds_toArray, List.set_cons_zero, List.set_cons_succ])
  refine wpAnyH_ready (rs := [7]) (by kernel_rfl) (by simp) ?_
  refine AllReadyH.cons (o := _) rfl (fun K hK => ?_) AllReadyH.nil
  go_simp
  refine (c_lay (B := B) r2 w1 (HF1.out) (HS1.out.fbs HFB.out hBw) (Nat.le_trans hBw HQ.out.size) (HN2.out.below HQ.out) HO2.out (by have := HL1.out; omega)).mono ?_
  rintro e w2 ⟨p2, v2, F2, rfl, hf, hG, hp, he, hs, hl⟩
  have HF2 := Go.Lib.hid hf
  have HG2 := Go.Lib.hid hG
  have HP2 := Go.Lib.hid hp
  have HE2 := Go.Lib.hid he
  have HS2 := Go.Lib.hid (show FStep fb mb pb v w v2 w2 from HS1.out.trans hs)
  have HL2 := Go.Lib.hid (show F2.length ≤ 1200 from by have := HL1.out; omega)
  have HQ := Go.Lib.hid (HS2.out.below hBw HFB.out)
  clear hf hG hp he hs hl
  (try go_wp2_with fail)
  (try clear hHeld)
  refine hK.out _ _ ?_ (fun hHeld => ?_)
  · first | exact ⟨y0, x10, x11, x12, x20, x21, x22⟩ | exact ⟨kc HQ.out ly y0, kc HQ.out l1 x10, kc HQ.out l1 x11, kc HQ.out l1 x12, kc HQ.out l2 x20, kc HQ.out l2 x21, kc HQ.out l2 x22⟩
  clear hK K
  (try simp only [Act.put, List.setIfInBounds_toArray, List.set_cons_zero, List.set_cons_succ])
  refine wpAnyH_ready (rs := [8]) (by kernel_rfl) (by simp) ?_
  refine AllReadyH.cons (o := _) rfl (fun K hK => ?_) AllReadyH.nil
  go_simp
  refine (pair_set hv0 hv13 r p1 p2 w2 HF2.out HR.out (by obtain ⟨G, hG⟩ := HG2.out; rw [hG]; exact HP1.out.app G) HP2.out (by have := HL2.out; omega) (by decide)).mono ?_
  rintro e w3 ⟨p3, v3, F3, np3, rfl, hf, hG, hp, he, hs, hl, hn⟩
  have HF3 := Go.Lib.hid hf
  have HP3 := Go.Lib.hid hp
  have HE3 := Go.Lib.hid he
  have HS3 := Go.Lib.hid (HS2.out.trans hs)
  have HL3 := Go.Lib.hid (show F3.length ≤ 30000 from by have := HL2.out; omega)
  have HNP := Go.Lib.hid (show np3 ≤ 30000 from by omega)
  have HQ := Go.Lib.hid (HS3.out.below hBw HFB.out)
  clear hf hG hp he hs hl hn
  (try go_wp2_with fail)
  (try clear hHeld)
  refine hK.out _ _ ?_ (fun hHeld => ?_)
  · first | exact ⟨y0, x10, x11, x12, x20, x21, x22⟩ | exact ⟨kc HQ.out ly y0, kc HQ.out l1 x10, kc HQ.out l1 x11, kc HQ.out l1 x12, kc HQ.out l2 x20, kc HQ.out l2 x21, kc HQ.out l2 x22⟩
  clear hK K
  (try simp only [Act.put, List.setIfInBounds_toArray, List.set_cons_zero, List.set_cons_succ])
  refine tL 9 (some 5) ?_
  refine wpAnyH_done (by kernel_rfl) ?_ _
  clear hHeld
  go_wp2_with fail
  go_ret
  refine ⟨p3, v3, F3, np3, rfl, HF3.out, ⟨F3, rfl⟩, HP3.out, fun c => ?_, HS3.out, by have := HL3.out; show _ ≤ 0 + 30000; omega, by have := HNP.out; omega⟩
  rw [HE3.out]
  show rl r _ _ = rl r _ _
  obtain ⟨G2, hG2⟩ := HG2.out
  rw [HE2.out, hG2, evF_app HF1.out.frs HP1.out, HE1.out, fixc_none]

set_option maxHeartbeats 16000000 in
theorem c_some1 {vars : Int} {B fb mb pb c1 ci : Nat} {v : Value} {a1 : Option Addr} {len1 cap1 : Nat} {ns1 : List BN} {r1 : Int} (i : Int) (w : World) (h : ForestAt vars fb mb pb v [] 0 w) (hB : ∀ g, FB fb mb pb v g → B ≤ g) (hBw : B ≤ w.heap.size) (hn1 : BnsAt B w a1 len1 cap1 ns1) (hok1 : OkB vars ns1 r1) (hc1 : CapB B c1 vars a1 len1 cap1 r1 w) (ly : ci < B) (y0 : w.cell? ⟨ci, 0, none⟩ = some (.int .i64 i)) :
    Calls Tryd.prog 54 (#[.pointer (some ⟨fb, 0, none⟩)] ++ #[.pointer (some ⟨c1, 0, none⟩), .pointer (some ⟨ci, 0, none⟩)]) w (SetQ vars fb mb pb v [] 0 30000 (fun c => evF ns1 r1 (fixc i false c) || evF ns1 r1 (fixc i true c)) w) := by
  show Calls Tryd.prog 54 #[.pointer (some ⟨fb, 0, none⟩), .pointer (some ⟨c1, 0, none⟩), .pointer (some ⟨ci, 0, none⟩)] w _
  have HF := Go.Lib.hid h
  have HFB := Go.Lib.hid hB
  have HN1 := Go.Lib.hid hn1
  have HO1 := Go.Lib.hid hok1
  obtain ⟨l1, x10, x11, x12⟩ := hc1
  have hv13 : vars ≤ 13 := hok1.hv.2
  have hv0 : 0 ≤ vars := hok1.hv.1
  clear h hB hn1 hok1
  go_enter Tryd.func54, Tryd.ntmps54
  go_upto_region 1 with fail
  refine wp_region_held_drew (S := (fun w' => w'.cell? ⟨c1, 0, none⟩ = some (.int .i64 vars) ∧ w'.cell? ⟨c1, 1, none⟩ = some (.slice a1 len1 cap1) ∧ w'.cell? ⟨c1, 2, none⟩ = some (.int .i64 r1) ∧ w'.cell? ⟨ci, 0, none⟩ = some (.int .i64 i))) (by kernel_rfl) ?_ (fun hHeld => ?_)
  · first | exact ⟨x10, x11, x12, y0⟩ | exact ⟨kc HQ.out l1 x10, kc HQ.out l1 x11, kc HQ.out l1 x12, kc HQ.out ly y0⟩
  refine tL 0 (some 5) ?_
  refine tL 1 (some 6) ?_
  refine tL 2 (some 7) ?_
  refine tL 3 (some 8) ?_
  refine tL 5 (some 10) ?_
  refine tL 6 (some 11) ?_
  refine tL 7 (some 12) ?_
  refine wpAnyH_ready (rs := [4]) (by kernel_rfl) (by simp) ?_
  refine AllReadyH.cons (o := _) rfl (fun K hK => ?_) AllReadyH.nil
  go_simp
  refine (c_layFixed (B := B) r1 i false w.drew (HF.out.keep (fun _ _ => rfl)) HFB.out hBw (HN1.out.below (Below.refl B w).drew) HO1.out (by decide)).mono ?_
  rintro e w1 ⟨p1, v1, F1, rfl, hf, hG, hp, he, hs, hl⟩
  have HF1 := Go.Lib.hid hf
  have HG1 := Go.Lib.hid hG
  have HP1 := Go.Lib.hid hp
  have HE1 := Go.Lib.hid he
  have HS1 := Go.Lib.hid (show FStep fb mb pb v w v1 w1 from ⟨hs.os, hs.tape, hs.output, hs.size, hs.block, hs.own⟩)
  have HL1 := Go.Lib.hid (show F1.length ≤ 600 from by simp at hl; omega)
  have HQ := Go.Lib.hid (HS1.out.below hBw HFB.out)
  clear hf hG hp he hs hl
  (try go_wp2_with fail)
  (try clear hHeld)
  refine hK.out _ _ ?_ (fun hHeld => ?_)
  · first | exact ⟨x10, x11, x12, y0⟩ | exact ⟨kc HQ.out l1 x10, kc HQ.out l1 x11, kc HQ.out l1 x12, kc HQ.out ly y0⟩
  clear hK K
  (try simp only [Act.put, List.setIfInBounds_toArray, List.set_cons_zero, List.set_cons_succ])
  refine wpAnyH_ready (rs := [8]) (by kernel_rfl) (by simp) ?_
  refine AllReadyH.cons (o := _) rfl (fun K hK => ?_) AllReadyH.nil
  go_simp
  refine (c_layFixed (B := B) r1 i true w1 (HF1.out) (HS1.out.fbs HFB.out hBw) (Nat.le_trans hBw HQ.out.size) (HN1.out.below HQ.out) HO1.out (by have := HL1.out; omega)).mono ?_
  rintro e w2 ⟨p2, v2, F2, rfl, hf, hG, hp, he, hs, hl⟩
  have HF2 := Go.Lib.hid hf
  have HG2 := Go.Lib.hid hG
  have HP2 := Go.Lib.hid hp
  have HE2 := Go.Lib.hid he
  have HS2 := Go.Lib.hid (show FStep fb mb pb v w v2 w2 from HS1.out.trans hs)
  have HL2 := Go.Lib.hid (show F2.length ≤ 1200 from by have := HL1.out; omega)
  have HQ := Go.Lib.hid (HS2.out.below hBw HFB.out)
  clear hf hG hp he hs hl
  (try go_wp2_with fail)
  (try clear hHeld)
  refine hK.out _ _ ?_ (fun hHeld => ?_)
  · first | exact ⟨x10, x11, x12, y0⟩ | exact ⟨kc HQ.out l1 x10, kc HQ.out l1 x11, kc HQ.out l1 x12, kc HQ.out ly y0⟩
  clear hK K
  (try simp only [Act.put, List.setIfInBounds_toArray, List.set_cons_zero, List.set_cons_succ])
  refine wpAnyH_ready (rs := [9]) (by kernel_rfl) (by simp) ?_
  refine AllReadyH.cons (o := _) rfl (fun K hK => ?_) AllReadyH.nil
  go_simp
  refine (pair_set hv0 hv13 14 p1 p2 w2 HF2.out (.inr (.inl rfl)) (by obtain ⟨G, hG⟩ := HG2.out; rw [hG]; exact HP1.out.app G) HP2.out (by have := HL2.out; omega) (by decide)).mono ?_
  rintro e w3 ⟨p3, v3, F3, np3, rfl, hf, hG, hp, he, hs, hl, hn⟩
  have HF3 := Go.Lib.hid hf
  have HP3 := Go.Lib.hid hp
  have HE3 := Go.Lib.hid he
  have HS3 := Go.Lib.hid (HS2.out.trans hs)
  have HL3 := Go.Lib.hid (show F3.length ≤ 30000 from by have := HL2.out; omega)
  have HNP := Go.Lib.hid (show np3 ≤ 30000 from by omega)
  have HQ := Go.Lib.hid (HS3.out.below hBw HFB.out)
  clear hf hG hp he hs hl hn
  (try go_wp2_with fail)
  (try clear hHeld)
  refine hK.out _ _ ?_ (fun hHeld => ?_)
  · first | exact ⟨x10, x11, x12, y0⟩ | exact ⟨kc HQ.out l1 x10, kc HQ.out l1 x11, kc HQ.out l1 x12, kc HQ.out ly y0⟩
  clear hK K
  (try simp only [Act.put, List.setIfInBounds_toArray, List.set_cons_zero, List.set_cons_succ])
  refine tL 10 (some 4) ?_
  refine wpAnyH_done (by kernel_rfl) ?_ _
  clear hHeld
  go_wp2_with fail
  go_ret
  refine ⟨p3, v3, F3, np3, rfl, HF3.out, ⟨F3, rfl⟩, HP3.out, fun c => ?_, HS3.out, by have := HL3.out; show _ ≤ 0 + 30000; omega, by have := HNP.out; omega⟩
  rw [HE3.out]
  show rl 14 _ _ = _
  obtain ⟨G2, hG2⟩ := HG2.out
  rw [rl_or, HE2.out, hG2, evF_app HF1.out.frs HP1.out, HE1.out]

set_option maxHeartbeats 16000000 in
theorem c_if1 {vars : Int} {B fb mb pb c1 c2 c3 : Nat} {v : Value} {a1 : Option Addr} {len1 cap1 : Nat} {ns1 : List BN} {r1 : Int} {a2 : Option Addr} {len2 cap2 : Nat} {ns2 : List BN} {r2 : Int} {a3 : Option Addr} {len3 cap3 : Nat} {ns3 : List BN} {r3 : Int}  (w : World) (h : ForestAt vars fb mb pb v [] 0 w) (hB : ∀ g, FB fb mb pb v g → B ≤ g) (hBw : B ≤ w.heap.size) (hn1 : BnsAt B w a1 len1 cap1 ns1) (hok1 : OkB vars ns1 r1) (hc1 : CapB B c1 vars a1 len1 cap1 r1 w) (hn2 : BnsAt B w a2 len2 cap2 ns2) (hok2 : OkB vars ns2 r2) (hc2 : CapB B c2 vars a2 len2 cap2 r2 w) (hn3 : BnsAt B w a3 len3 cap3 ns3) (hok3 : OkB vars ns3 r3) (hc3 : CapB B c3 vars a3 len3 cap3 r3 w)  :
    Calls Tryd.prog 39 (#[.pointer (some ⟨fb, 0, none⟩)] ++ #[.pointer (some ⟨c1, 0, none⟩), .pointer (some ⟨c2, 0, none⟩), .pointer (some ⟨c3, 0, none⟩)]) w (SetQ vars fb mb pb v [] 0 30000 (fun c => if evF ns1 r1 c then evF ns2 r2 c else evF ns3 r3 c) w) := by
  show Calls Tryd.prog 39 #[.pointer (some ⟨fb, 0, none⟩), .pointer (some ⟨c1, 0, none⟩), .pointer (some ⟨c2, 0, none⟩), .pointer (some ⟨c3, 0, none⟩)] w _
  have HF := Go.Lib.hid h
  have HFB := Go.Lib.hid hB
  have HN1 := Go.Lib.hid hn1
  have HO1 := Go.Lib.hid hok1
  obtain ⟨l1, x10, x11, x12⟩ := hc1
  have HN2 := Go.Lib.hid hn2
  have HO2 := Go.Lib.hid hok2
  obtain ⟨l2, x20, x21, x22⟩ := hc2
  have HN3 := Go.Lib.hid hn3
  have HO3 := Go.Lib.hid hok3
  obtain ⟨l3, x30, x31, x32⟩ := hc3
  have hv13 : vars ≤ 13 := hok1.hv.2
  have hv0 : 0 ≤ vars := hok1.hv.1
  clear h hB hn1 hok1 hn2 hok2 hn3 hok3
  go_enter Tryd.func39, Tryd.ntmps39
  go_upto_region 1 with fail
  refine wp_region_held_drew (S := (fun w' => w'.cell? ⟨c1, 0, none⟩ = some (.int .i64 vars) ∧ w'.cell? ⟨c1, 1, none⟩ = some (.slice a1 len1 cap1) ∧ w'.cell? ⟨c1, 2, none⟩ = some (.int .i64 r1) ∧ w'.cell? ⟨c2, 0, none⟩ = some (.int .i64 vars) ∧ w'.cell? ⟨c2, 1, none⟩ = some (.slice a2 len2 cap2) ∧ w'.cell? ⟨c2, 2, none⟩ = some (.int .i64 r2) ∧ w'.cell? ⟨c3, 0, none⟩ = some (.int .i64 vars) ∧ w'.cell? ⟨c3, 1, none⟩ = some (.slice a3 len3 cap3) ∧ w'.cell? ⟨c3, 2, none⟩ = some (.int .i64 r3))) (by kernel_rfl) ?_ (fun hHeld => ?_)
  · first | exact ⟨x10, x11, x12, x20, x21, x22, x30, x31, x32⟩ | exact ⟨kc HQ.out l1 x10, kc HQ.out l1 x11, kc HQ.out l1 x12, kc HQ.out l2 x20, kc HQ.out l2 x21, kc HQ.out l2 x22, kc HQ.out l3 x30, kc HQ.out l3 x31, kc HQ.out l3 x32⟩
  refine tL 0 (some 6) ?_
  refine tL 1 (some 7) ?_
  refine tL 2 (some 8) ?_
  refine tL 4 (some 10) ?_
  refine tL 5 (some 11) ?_
  refine tL 7 (some 13) ?_
  refine tL 8 (some 14) ?_
  refine wpAnyH_ready (rs := [3]) (by kernel_rfl) (by simp) ?_
  refine AllReadyH.cons (o := _) rfl (fun K hK => ?_) AllReadyH.nil
  go_simp
  refine (c_lay (B := B) r1 w.drew (HF.out.keep (fun _ _ => rfl)) HFB.out hBw (HN1.out.below (Below.refl B w).drew) HO1.out (by decide)).mono ?_
  rintro e w1 ⟨p1, v1, F1, rfl, hf, hG, hp, he, hs, hl⟩
  have HF1 := Go.Lib.hid hf
  have HG1 := Go.Lib.hid hG
  have HP1 := Go.Lib.hid hp
  have HE1 := Go.Lib.hid he
  have HS1 := Go.Lib.hid (show FStep fb mb pb v w v1 w1 from ⟨hs.os, hs.tape, hs.output, hs.size, hs.block, hs.own⟩)
  have HL1 := Go.Lib.hid (show F1.length ≤ 600 from by simp at hl; omega)
  have HQ := Go.Lib.hid (HS1.out.below hBw HFB.out)
  clear hf hG hp he hs hl
  (try go_wp2_with fail)
  (try clear hHeld)
  refine hK.out _ _ ?_ (fun hHeld => ?_)
  · first | exact ⟨x10, x11, x12, x20, x21, x22, x30, x31, x32⟩ | exact ⟨kc HQ.out l1 x10, kc HQ.out l1 x11, kc HQ.out l1 x12, kc HQ.out l2 x20, kc HQ.out l2 x21, kc HQ.out l2 x22, kc HQ.out l3 x30, kc HQ.out l3 x31, kc HQ.out l3 x32⟩
  clear hK K
  (try simp only [Act.put, List.setIfInBounds_toArray, List.set_cons_zero, List.set_cons_succ])
  refine wpAnyH_ready (rs := [6]) (by kernel_rfl) (by simp) ?_
  refine AllReadyH.cons (o := _) rfl (fun K hK => ?_) AllReadyH.nil
  go_simp
  refine (c_lay (B := B) r2 w1 (HF1.out) (HS1.out.fbs HFB.out hBw) (Nat.le_trans hBw HQ.out.size) (HN2.out.below HQ.out) HO2.out (by have := HL1.out; omega)).mono ?_
  rintro e w2 ⟨p2, v2, F2, rfl, hf, hG, hp, he, hs, hl⟩
  have HF2 := Go.Lib.hid hf
  have HG2 := Go.Lib.hid hG
  have HP2 := Go.Lib.hid hp
  have HE2 := Go.Lib.hid he
  have HS2 := Go.Lib.hid (show FStep fb mb pb v w v2 w2 from HS1.out.trans hs)
  have HL2 := Go.Lib.hid (show F2.length ≤ 1200 from by have := HL1.out; omega)
  have HQ := Go.Lib.hid (HS2.out.below hBw HFB.out)
  clear hf hG hp he hs hl
  (try go_wp2_with fail)
  (try clear hHeld)
  refine hK.out _ _ ?_ (fun hHeld => ?_)
  · first | exact ⟨x10, x11, x12, x20, x21, x22, x30, x31, x32⟩ | exact ⟨kc HQ.out l1 x10, kc HQ.out l1 x11, kc HQ.out l1 x12, kc HQ.out l2 x20, kc HQ.out l2 x21, kc HQ.out l2 x22, kc HQ.out l3 x30, kc HQ.out l3 x31, kc HQ.out l3 x32⟩
  clear hK K
  (try simp only [Act.put, List.setIfInBounds_toArray, List.set_cons_zero, List.set_cons_succ])
  refine wpAnyH_ready (rs := [9]) (by kernel_rfl) (by simp) ?_
  refine AllReadyH.cons (o := _) rfl (fun K hK => ?_) AllReadyH.nil
  go_simp
  refine (c_lay (B := B) r3 w2 (HF2.out) (HS2.out.fbs HFB.out hBw) (Nat.le_trans hBw HQ.out.size) (HN3.out.below HQ.out) HO3.out (by have := HL2.out; omega)).mono ?_
  rintro e w3 ⟨p3, v3, F3, rfl, hf, hG, hp, he, hs, hl⟩
  have HF3 := Go.Lib.hid hf
  have HG3 := Go.Lib.hid hG
  have HP3 := Go.Lib.hid hp
  have HE3 := Go.Lib.hid he
  have HS3 := Go.Lib.hid (show FStep fb mb pb v w v3 w3 from HS2.out.trans hs)
  have HL3 := Go.Lib.hid (show F3.length ≤ 1800 from by have := HL2.out; omega)
  have HQ := Go.Lib.hid (HS3.out.below hBw HFB.out)
  clear hf hG hp he hs hl
  (try go_wp2_with fail)
  (try clear hHeld)
  refine hK.out _ _ ?_ (fun hHeld => ?_)
  · first | exact ⟨x10, x11, x12, x20, x21, x22, x30, x31, x32⟩ | exact ⟨kc HQ.out l1 x10, kc HQ.out l1 x11, kc HQ.out l1 x12, kc HQ.out l2 x20, kc HQ.out l2 x21, kc HQ.out l2 x22, kc HQ.out l3 x30, kc HQ.out l3 x31, kc HQ.out l3 x32⟩
  clear hK K
  (try simp only [Act.put, List.setIfInBounds_toArray, List.set_cons_zero, List.set_cons_succ])
  refine wpAnyH_ready (rs := [10]) (by kernel_rfl) (by simp) ?_
  refine AllReadyH.cons (o := _) rfl (fun K hK => ?_) AllReadyH.nil
  go_simp
  refine (c_choice hv0 hv13 p1 p2 p3 w3 HF3.out (by obtain ⟨G2, hG2⟩ := HG2.out; obtain ⟨G3, hG3⟩ := HG3.out; rw [hG3, hG2]; exact (HP1.out.app G2).app G3) (by obtain ⟨G3, hG3⟩ := HG3.out; rw [hG3]; exact HP2.out.app G3) HP3.out (by have := HL3.out; omega) (by decide)).mono ?_
  rintro e w4 ⟨p4, v4, F4, np4, rfl, hf, hG, hp, he, hs, hl, hn⟩
  have HF4 := Go.Lib.hid hf
  have HP4 := Go.Lib.hid hp
  have HE4 := Go.Lib.hid he
  have HS4 := Go.Lib.hid (HS3.out.trans hs)
  have HL4 := Go.Lib.hid (show F4.length ≤ 30000 from by have := HL3.out; omega)
  have HNP := Go.Lib.hid (show np4 ≤ 30000 from by omega)
  have HQ := Go.Lib.hid (HS4.out.below hBw HFB.out)
  clear hf hG hp he hs hl hn
  (try go_wp2_with fail)
  (try clear hHeld)
  refine hK.out _ _ ?_ (fun hHeld => ?_)
  · first | exact ⟨x10, x11, x12, x20, x21, x22, x30, x31, x32⟩ | exact ⟨kc HQ.out l1 x10, kc HQ.out l1 x11, kc HQ.out l1 x12, kc HQ.out l2 x20, kc HQ.out l2 x21, kc HQ.out l2 x22, kc HQ.out l3 x30, kc HQ.out l3 x31, kc HQ.out l3 x32⟩
  clear hK K
  (try simp only [Act.put, List.setIfInBounds_toArray, List.set_cons_zero, List.set_cons_succ])
  refine tL 11 (some 5) ?_
  refine wpAnyH_done (by kernel_rfl) ?_ _
  clear hHeld
  go_wp2_with fail
  go_ret
  refine ⟨p4, v4, F4, np4, rfl, HF4.out, ⟨F4, rfl⟩, HP4.out, fun c => ?_, HS4.out, by have := HL4.out; show _ ≤ 0 + 30000; omega, by have := HNP.out; omega⟩
  rw [HE4.out]
  show (if _ then _ else _) = if _ then _ else _
  obtain ⟨G2, hG2⟩ := HG2.out
  obtain ⟨G3, hG3⟩ := HG3.out
  rw [HE3.out, hG3, evF_app HF2.out.frs HP2.out, HE2.out, evF_app HF2.out.frs (show InF F2 p1 by rw [hG2]; exact HP1.out.app G2), hG2, evF_app HF1.out.frs HP1.out, HE1.out, fixc_none]
end Go.Proofs.YthdofdglbdfkkaaDoor
