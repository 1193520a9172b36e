/-
  Of a forest: what a rule makes of two sets.
-/
import Derived.Test.YthdofdglbdfkkaaDoorRows
import Derived.Test.YthdofdglbdfkkaaDoorG0
import Derived.Test.YthdofdglbdfkkaaDoorFoW
import Derived.Test.YthdofdglbdfkkaaDoorFoP
import Derived.Test.YthdofdglbdfkkaaDoorFoQ
import Derived.WalkKit
import Derived.ProofKit
import Derived.OpenShut
import Derived.WalkSpells
import Derived.WalkLawsBesides
import Derived.Outline
import Derived.BigQuiet
import Derived.Handy
import Derived.LoopTactic
import Derived.Deep.Light
import Derived.Deep.RegionWith
import Derived.Deep.RegionHeld3
import Derived.Deep.DeepCutAuto
import Derived.Lib.Hide
import Derived.Maps.OwnRows
import Derived.Deep.Onto
import Derived.OneCell
import Derived.StillTailTactics
import Derived.Deep.AppendLies
import Derived.Deep.RegionLaw
namespace Go.Proofs.YthdofdglbdfkkaaDoor
open Go.ChangeShapes Go.WideShapes Go.ChangeAt Go.RowKit Go.Maps Go.ChangeMaps
set_option linter.unusedVariables false
set_option maxRecDepth 100000

theorem firstV_app (F : List BN) : ∀ (l : List Int) (acc p : Int), firstV F acc (l ++ [p]) = if 2 ≤ p then min (firstV F acc l) (F.getD (p - 2).toNat default).v else firstV F acc l
  | [], acc, p => rfl
  | q :: l, acc, p => by
    show firstV F _ (l ++ [p]) = _
    rw [firstV_app F l]
    rfl
theorem ints_two (x y : Int) (hx : fits x) (hy : fits y) (w : World) (t : TypeId) : IntsAt (w.alloc (.cells #[.int .i64 x, .int .i64 y] t)).heap.size (w.alloc (.cells #[.int .i64 x, .int .i64 y] t)) (some ⟨w.heap.size, 0, none⟩) 2 2 [x, y] := by
  refine ⟨rfl, Nat.le_refl _, by unfold maxLen; decide, fun z hz => ?_, fun e => by simp at e, .inr ⟨w.heap.size, 0, rfl, alloc_ltS _ _, fun i hi q hq => ?_⟩⟩
  · simp at hz
    rcases hz with rfl | rfl
    · exact hx
    · exact hy
  · have hk := (MapKept.heap_alloc w (.cells #[.int .i64 x, .int .i64 y] t)).1
    have hi' : i < 2 := hi
    have hq' : q = 0 := by omega
    subst hq'
    have : i = 0 ∨ i = 1 := by omega
    rcases this with rfl | rfl
    · exact cell_of_block (i := 0) hk rfl
    · exact cell_of_block (i := 1) hk rfl

def SameW (a b : World) : Prop := a = b
set_option maxHeartbeats 4000000 in
theorem c_firstVar {vars : Int} {fb mb pb B : Nat} {v : Value} {F : List BN} {np : Nat} {a : Option Addr} {len cap : Nat} {ps : List Int} (w : World) (hBw : B ≤ w.heap.size) (h : ForestAt vars fb mb pb v F np w) (hp : IntsAt B w a len cap ps) (hin : ∀ p ∈ ps, InF F p) :
    Calls Tryd.prog 85 #[.pointer (some ⟨fb, 0, none⟩), .slice a len cap] w fun e w' => e = .returned (.int .i64 (firstV F 13 ps)) ∧ w' = w := by
  have HF := Go.Lib.hid h
  have HP := Go.Lib.hid hp
  have HI := Go.Lib.hid hin
  have hpl : ps.length = len := hp.1
  have HPL := Go.Lib.hid hpl
  have hlm : (len : Int) ≤ 9223372036854775807 := by have h1 := hp.2.1; have h2 := hp.2.2.1; unfold maxLen at h2; omega
  obtain ⟨va, vc, rfl, hb⟩ := h.bns
  have HB := Go.Lib.hid hb
  have f0 := cell_of_block (i := 0) h.blk (v := .slice va F.length vc) rfl
  clear h hp hin hpl hb
  go_enter Tryd.func85, Tryd.ntmps85
  go_wp2_with fail
  go_loopw [5, 10] (fun s i wr => ∃ k : Nat, k ≤ len ∧ i = .int .i64 k ∧ s = .int .i64 (firstV F 13 (ps.take k)) ∧ SameW wr w) (fun _ i _ => len - (intOf i).toNat)
  case atStart => exact ⟨0, by omega, rfl, rfl, rfl⟩
  case round =>
    obtain ⟨k, hk, rfl, rfl, hwr⟩ := hrel
    have hwr' : wr = w := hwr
    clear hwr
    subst hwr'
    by_cases hkl : k < len
    · have hki : (k : Int) < len := by omega
      obtain ⟨p, b, off, hpp, -, rfl, hbB, c0⟩ := int_at HP.out hkl
      have hstep : firstV F 13 (ps.take (k + 1)) = if 2 ≤ p then min (firstV F 13 (ps.take k)) (F.getD (p - 2).toNat default).v else firstV F 13 (ps.take k) := by
        have hkp : k < ps.length := by have := HPL.out; omega
        rw [List.take_succ_eq_append_getElem hkp, firstV_app]
        have : ps[k] = p := by rw [← hpp]; simp [List.getD, hkp]
        rw [this]
      have HST := Go.Lib.hid hstep
      have hip : InF F p := HI.out p (by rw [← hpp, List.getD_eq_getElem?_getD, List.getElem?_eq_getElem (by have := HPL.out; omega)]; exact List.getElem_mem ..)
      clear hstep hpp
      by_cases h2 : 2 ≤ p
      · obtain ⟨q, rfl⟩ : ∃ q : Nat, p = (q : Int) + 2 := ⟨(p - 2).toNat, by omega⟩
        have hq : q < F.length := by have := hip.2; omega
        have hqi : (q : Int) < F.length := by omega
        obtain ⟨n, b', off', hn, -, rfl, hbB', d0, -, -⟩ := bn_at HB.out hq
        have e : ((q : Int) + 2 - 2).toNat = q := by omega
        have e3 : (q : Int) + 2 - 2 = q := by omega
        have HN := Go.Lib.hid (show F.getD ((q : Int) + 2 - 2).toNat default = n by rw [e, hn])
        have hq6 : (F.length : Int) ≤ 9223372036854775807 := by have := HB.out; obtain ⟨q1, q2, q3, q4, q5, q6⟩ := this; unfold maxLen at q3; omega
        clear hn e
        obtain ⟨acc, hacc⟩ : ∃ acc, firstV F 13 (ps.take k) = acc := ⟨_, rfl⟩
        have HACC := Go.Lib.hid hacc
        rw [hacc]
        clear hacc
        go_wp2_with fail
        go_roundw
        case rel => exact ⟨k + 1, by omega, by go_num, by rw [HST.out, HN.out, HACC.out, if_pos (show (2 : Int) ≤ (q : Int) + 2 by omega)]; congr 1; split <;> omega, rfl⟩
        case measure => simp [intOf]; omega
      · have HN := Go.Lib.hid h2
        go_wp2_with fail
        go_roundw
        case rel => exact ⟨k + 1, by omega, by go_num, by rw [HST.out, if_neg HN.out], rfl⟩
        case measure => simp [intOf]; omega
    · have hki : ¬ (k : Int) < len := by omega
      obtain rfl : k = len := by omega
      have HE := Go.Lib.hid (show ps.take k = ps from List.take_of_length_le (by have := HPL.out; omega))
      go_wp2_with fail
      go_ret
      exact ⟨by rw [HE.out]; rfl, rfl⟩

theorem forest_pair {vars r a b p : Int} {fb mb pb : Nat} {v : Value} {F : List BN} {np : Nat} {w w' : World} {kl : Lit} {M : Lit → Int → Prop} (h : ForestAt vars fb mb pb v F np w) (hkl : keyOf Tryd.prog 99 (prAgg r a b) = some kl) (hp : PairF vars r a b F p)
    (hM : IntMap 99 pb (np + 1) (fun q y => (q = kl ∧ y = p) ∨ (q ≠ kl ∧ M q y)) w') (hMs : ∀ q z, M q z → PrsR vars F q z) (hg : w.grownBy w' (some pb)) : ForestAt vars fb mb pb v F (np + 1) w' ∧ FStep fb mb pb v w v w' := by
  have hk : ∀ k, k < w.heap.size → k ≠ pb → w'.heap[k]? = w.heap[k]? := fun k hk hn => hg.block k hk (fun e => hn (Option.some.inj e))
  obtain ⟨n1, n2, n3, n4, n5⟩ := h.ne
  refine ⟨⟨(hk fb (h.lt (.inl rfl)) n2).trans h.blk, h.own.block (fun y _ hy hy' => hk y hy (fun e => n5 (by rw [hy', e]))), h.plc.of_block (hk mb (h.lt (.inr (.inl rfl))) h.mp), ⟨_, hM, fun q z hq => ?_⟩, h.frs, h.mp⟩, ⟨hg.os, hg.tape, hg.output, hg.size, fun k hk' hn => hk k hk' (fun e => hn (.inr (.inr (.inl e)))), fun g hg' => .inl hg'⟩⟩
  rcases hq with ⟨rfl, rfl⟩ | ⟨-, hq⟩
  · exact ⟨r, a, b, hkl, hp⟩
  · exact hMs q z hq
def PairQ (vars : Int) (fb mb pb : Nat) (v : Value) (F : List BN) (np n : Nat) (r a b : Int) (w : World) (e : Ending) (w' : World) : Prop :=
  ∃ p v' F' np', e = .returned (.int .i64 p) ∧ ForestAt vars fb mb pb v' F' np' w' ∧ (∃ G, F' = F ++ G) ∧ PairF vars r a b F' p ∧ FStep fb mb pb v w v' w' ∧ F'.length + 1 ≤ F.length + 2 ^ n ∧ np' + 1 ≤ np + 2 ^ n
theorem rule_fits {r : Int} (h : isRule r) : fits r := by rcases h with rfl | rfl | rfl <;> exact fits_small (by decide) (by decide)

set_option maxHeartbeats 16000000 in
theorem c_pair {vars : Int} {fb mb pb : Nat} (hv0 : 0 ≤ vars) (hv13 : vars ≤ 13) : ∀ (n : Nat) (F : List BN) (np : Nat) (v : Value) (r a b : Int) (w : World), ForestAt vars fb mb pb v F np w → isRule r → InF F a → InF F b → vars - min (vAt vars F a) (vAt vars F b) ≤ n → F.length + 2 ^ n ≤ 1000000 → np + 2 ^ n ≤ 1000000 →
    Calls Tryd.prog 55 #[.pointer (some ⟨fb, 0, none⟩), .int .i64 r, .int .i64 a, .int .i64 b] w (PairQ vars fb mb pb v F np n r a b w) := by
  intro n
  induction n using Nat.strongRecOn with
  | ind n IH =>
  intro F np v r a b w h hr ha hb hlv hs1 hs2
  have HF := Go.Lib.hid h
  have HR := Go.Lib.hid hr
  have HIA := Go.Lib.hid ha
  have HIB := Go.Lib.hid hb
  have HLV := Go.Lib.hid hlv
  have HV13 := Go.Lib.hid hv13
  have HP2 := Go.Lib.hid (Nat.two_pow_pos n)
  have NFB := Go.Lib.hid (show ¬ FB fb mb pb v w.heap.size from fun hg => Nat.lt_irrefl _ (h.lt hg))
  clear h hr ha hb hlv
  by_cases hab : a ≤ b
  · have HXY := Go.Lib.hid hab
    have HX0 := Go.Lib.hid HIA.out.1
    have hgt : ¬ a > b := by omega
    have hpl := c_plainPair r a b HR.out HX0.out HXY.out w
    have HPL := Go.Lib.hid hpl
    clear hpl
    cases hpo : plainOk r a b with
    | true =>
      have HPO := Go.Lib.hid (plain_pair (by omega) HF.out.frs HR.out HIA.out HIB.out HXY.out hpo)
      rw [hpo] at HPL
      clear hpo
      go_enter Tryd.func55, Tryd.ntmps55
      go_wp2_with fail
      refine HPL.out.mono ?_
      rintro e w' ⟨rfl, rfl⟩
      go_wp2_with fail
      go_ret
      exact ⟨_, _, F, np, rfl, HF.out, ⟨[], by simp⟩, HPO.out, FStep.refl _ _ _ _ _, by have := HP2.out; omega, by have := HP2.out; omega⟩
    | false =>
      have hy2 : 2 ≤ b := by
        unfold plainOk at hpo
        by_cases h : b < 2
        · rw [if_pos h] at hpo; cases hpo
        · omega
      rw [hpo] at HPL
      clear hpo
      obtain ⟨hfv, hvv⟩ := firstV_two HF.out.frs HV13.out HIA.out HIB.out (.inr hy2)
      obtain ⟨x, hx⟩ : ∃ x, min (vAt vars F a) (vAt vars F b) = x := ⟨_, rfl⟩
      rw [hx] at hfv hvv
      have HFV := Go.Lib.hid hfv
      have HVV := Go.Lib.hid hvv
      have HX := Go.Lib.hid hx.symm
      have hn1 : 1 ≤ n := by have := HLV.out; omega
      obtain ⟨m, rfl⟩ : ∃ m, n = m + 1 := ⟨n - 1, by omega⟩
      have HIH := Go.Lib.hid (IH m (by omega))
      have hp2 : 2 ^ (m + 1) = 2 * 2 ^ m := by rw [Nat.pow_succ]; omega
      have HPW := Go.Lib.hid hp2
      have HS1 := Go.Lib.hid (show F.length + 2 ^ (m + 1) ≤ 1000000 ∧ np + 2 ^ (m + 1) ≤ 1000000 from ⟨hs1, hs2⟩)
      have fx : fits a := fits_small HX0.out (by have := HIA.out.2; omega)
      have fy : fits b := fits_small (by omega) (by have := HIB.out.2; omega)
      obtain ⟨kl, hkl⟩ := keyOf_pr r a b (rule_fits HR.out) fx fy
      have HKL := Go.Lib.hid hkl
      have HFX := Go.Lib.hid (And.intro fx fy)
      obtain ⟨M, hM, hMs⟩ := HF.out.prs
      obtain ⟨z, ok, hrun, hyes, hno⟩ := hM.look prK mapPI hkl
      have HRUN := Go.Lib.hid hrun
      have hpw := HF.out.lt (.inr (.inr (.inl rfl)))
      obtain ⟨w1c, w2c, w3c, w4c, w5c⟩ := ways_ok HF.out.frs HIA.out (v := x) (by omega) hvv
      obtain ⟨y1c, y2c, y3c, y4c, y5c⟩ := ways_ok HF.out.frs HIB.out (v := x) (by omega) hvv
      have HWX := Go.Lib.hid (And.intro w1c (And.intro w2c (And.intro w3c w4c)))
      have HWY := Go.Lib.hid (And.intro y1c (And.intro y2c (And.intro y3c y4c)))
      have hx0 : 0 ≤ x := by have h1 := (vAt_nonneg (by omega) HF.out.frs HIA.out).1; have h2 := (vAt_nonneg (by omega) HF.out.frs HIB.out).1; omega
      have HXX := Go.Lib.hid hx0
      clear hfv hvv hx hn1 hp2 fx fy hkl hM hrun IH w1c w2c w3c w4c w5c y1c y2c y3c y4c y5c hs1 hs2 hx0 HP2
      cases ok with
      | true =>
        obtain ⟨r', a', b', e1, e2⟩ := hMs _ _ (hyes rfl)
        obtain ⟨rfl, rfl, rfl⟩ := prAgg_inj (prK.inj e1 HKL.out)
        have HE := Go.Lib.hid e2
        clear hyes hno e1 e2 hMs
        go_enter Tryd.func55, Tryd.ntmps55
        go_wp2_with fail
        refine HPL.out.mono ?_
        rintro e w' ⟨rfl, hw⟩
        cases hw
        go_upto_region 7 with fail
        refine code_gen (R := fun wb => wb.heap[w.heap.size]? = some (.cells #[.int .i64 r', .int .i64 a', .int .i64 b'] 99 (0, 0)) ∧ Below w.heap.size w wb) ⟨by first | exact (MapKept.heap_alloc _ _).1 | exact heap_alloc_new _ _, by go_grown⟩ ?_
        rintro w1 ⟨k1, hb1⟩
        have HF1 := Go.Lib.hid (HF.out.below hb1)
        have HS := Go.Lib.hid (fun n => FStep.of_below (fb := fb) (mb := mb) (pb := pb) (v := v) (show Below w.heap.size w (w1.drewN n) from ⟨hb1.os, hb1.tape, hb1.output, hb1.size, hb1.block⟩))
        have hm1 : w1.heap[pb]? = w.heap[pb]? := hb1.block _ hpw
        have hlk : ∀ n, (Instr.lookup 94 (.map (some pb)) (.agg #[.int .i64 r', .int .i64 a', .int .i64 b']) true).run Tryd.prog (w1.drewN n) = .ok (.tuple #[.int .i64 z, .bool true]) (w1.drewN n) := fun n => HRUN.out (w1.drewN n) hm1
        have f2 := cell_of_block (i := 2) HF1.out.blk (v := .map (some pb)) rfl
        have z0 := cell_of_block (i := 0) k1 (v := .int .i64 r') rfl
        have z1 := cell_of_block (i := 1) k1 (v := .int .i64 a') rfl
        have z2 := cell_of_block (i := 2) k1 (v := .int .i64 b') rfl
        clear k1 hb1
        go_quiet (fail)
        clear hlk
        go_wp2_with fail
        go_ret
        exact ⟨_, _, F, np, rfl, HF1.out.keep (fun _ _ => rfl), ⟨[], by simp⟩, HE.out, HS.out _, by have := HPW.out; have := Nat.two_pow_pos m; omega, by have := HPW.out; have := Nat.two_pow_pos m; omega⟩
      | false =>
        clear hyes hno
        have HMS := Go.Lib.hid hMs
        clear hMs
        go_enter Tryd.func55, Tryd.ntmps55
        go_wp2_with fail
        refine HPL.out.mono ?_
        rintro e w' ⟨rfl, hw⟩
        cases hw
        go_upto_region 7 with fail
        refine code_gen (R := fun wb => wb.heap[w.heap.size]? = some (.cells #[.int .i64 r, .int .i64 a, .int .i64 b] 99 (0, 0)) ∧ Below w.heap.size w wb) ⟨by first | exact (MapKept.heap_alloc _ _).1 | exact heap_alloc_new _ _, by go_grown⟩ ?_
        rintro w1 ⟨k1, hb1⟩
        have HF1 := Go.Lib.hid (HF.out.below hb1)
        have HB1 := Go.Lib.hid hb1
        have HK1 := Go.Lib.hid k1
        have hm1 : w1.heap[pb]? = w.heap[pb]? := hb1.block _ hpw
        have hlk : ∀ n, (Instr.lookup 94 (.map (some pb)) (.agg #[.int .i64 r, .int .i64 a, .int .i64 b]) true).run Tryd.prog (w1.drewN n) = .ok (.tuple #[.int .i64 z, .bool false]) (w1.drewN n) := fun n => HRUN.out (w1.drewN n) hm1
        have f2 := cell_of_block (i := 2) HF1.out.blk (v := .map (some pb)) rfl
        have z0 := cell_of_block (i := 0) k1 (v := .int .i64 r) rfl
        have z1 := cell_of_block (i := 1) k1 (v := .int .i64 a) rfl
        have z2 := cell_of_block (i := 2) k1 (v := .int .i64 b) rfl
        clear k1 hb1
        go_quiet (fail)
        clear hlk f2 z0 z1 z2
        go_upto_region 10 with fail
        refine code_gen (R := fun wb => wb.heap[w.heap.size]? = some (.cells #[.int .i64 r, .int .i64 a, .int .i64 b] 99 (0, 0)) ∧ ForestAt vars fb mb pb v F np wb ∧ Below w.heap.size w wb) ⟨HK1.out, HF1.out.keep (fun _ _ => rfl), ⟨HB1.out.os, HB1.out.tape, HB1.out.output, HB1.out.size, HB1.out.block⟩⟩ ?_
        clear HF1 HB1 HK1 hm1 w1
        rintro w1 ⟨k1, hf1, hb1⟩
        have HF1 := Go.Lib.hid hf1
        have HK1 := Go.Lib.hid k1
        have HS1b := Go.Lib.hid (FStep.of_below (fb := fb) (mb := mb) (pb := pb) (v := v) hb1)
        clear k1 hf1 hb1
        go_wp2_with fail
        refine (c_firstVar (B := w1.heap.size + 1) (ps := [a, b]) _ (by simp) (HF1.out.below (by go_grown)) (by have := ints_two a b HFX.out.1 HFX.out.2 w1 3; simpa using this) (by intro p hp; simp at hp; rcases hp with rfl | rfl; exact HIA.out; exact HIB.out)).mono ?_
        rintro e w2 ⟨he, hw2⟩
        rw [HFV.out] at he
        subst he
        subst hw2
        go_upto_region 11 with fail
        refine code_gen (R := fun wb => wb.heap[w.heap.size]? = some (.cells #[.int .i64 r, .int .i64 a, .int .i64 b] 99 (0, 0)) ∧ ForestAt vars fb mb pb v F np wb ∧ FStep fb mb pb v w v wb) ⟨?_, HF1.out.below (by go_grown), HS1b.out.then (by go_grown)⟩ ?_
        · exact (Below.heap_alloc _ _ _ (Array.getElem?_eq_some_iff.1 HK1.out).1).trans HK1.out
        clear HF1 HK1 HS1b
        rintro w2 ⟨k2, hf2, hs2⟩
        have HK2 := Go.Lib.hid k2
        have HF2 := Go.Lib.hid hf2
        have HS2 := Go.Lib.hid hs2
        have LT2 := Go.Lib.hid (Array.getElem?_eq_some_iff.1 k2).1
        clear k2 hf2 hs2
        go_wp2_with fail
        refine (c_ways a x w2 HF2.out HIA.out).mono ?_
        rintro e w3 ⟨rfl, hb3⟩
        have HF3 := Go.Lib.hid (HF2.out.below hb3)
        have HS3 := Go.Lib.hid (FStep.of_below (fb := fb) (mb := mb) (pb := pb) (v := v) hb3)
        clear hb3
        go_wp2_with fail
        refine (c_ways b x w3 HF3.out HIB.out).mono ?_
        rintro e w4 ⟨rfl, hb4⟩
        have HF4 := Go.Lib.hid (HF3.out.below hb4)
        have HS4 := Go.Lib.hid (HS3.out.then hb4)
        clear hb4
        go_wp2_with fail
        refine (HIH.out F np v r (wayL F a x) (wayL F b x) w4 HF4.out HR.out HWX.out.1 HWY.out.1 (by have h1 := HWX.out.2.2.1; have h2 := HWY.out.2.2.1; have h3 := HLV.out; have h4 := HX.out; omega) (by have h1 := HPW.out; have h2 := HS1.out.1; omega) (by have h1 := HPW.out; have h2 := HS1.out.2; omega)).mono ?_
        rintro e w5 ⟨pl, v5, F5, np5, rfl, hf5, hg5, hp5, hs5, hl5, hn5⟩
        have HF5 := Go.Lib.hid hf5
        have HG5 := Go.Lib.hid hg5
        have HP5 := Go.Lib.hid hp5
        have HS5 := Go.Lib.hid (HS4.out.trans hs5)
        have HL5 := Go.Lib.hid (And.intro hl5 hn5)
        clear hf5 hg5 hp5 hs5 hl5 hn5
        go_wp2_with fail
        have hq1 : InF F5 (wayH F a x) ∧ InF F5 (wayH F b x) ∧ vAt vars F5 (wayH F a x) = vAt vars F (wayH F a x) ∧ vAt vars F5 (wayH F b x) = vAt vars F (wayH F b x) := by
          obtain ⟨G, rfl⟩ := HG5.out
          exact ⟨HWX.out.2.1.app G, HWY.out.2.1.app G, vAt_app HWX.out.2.1.2, vAt_app HWY.out.2.1.2⟩
        refine (HIH.out F5 np5 v5 r (wayH F a x) (wayH F b x) w5 HF5.out HR.out hq1.1 hq1.2.1 (by rw [hq1.2.2.1, hq1.2.2.2]; have h1 := HWX.out.2.2.2; have h2 := HWY.out.2.2.2; have h3 := HLV.out; have h4 := HX.out; omega) (by have h1 := HPW.out; have h2 := HS1.out.1; have h3 := HL5.out.1; omega) (by have h1 := HPW.out; have h2 := HS1.out.2; have h3 := HL5.out.2; omega)).mono ?_
        clear hq1
        rintro e w6 ⟨ph, v6, F6, np6, rfl, hf6, hg6, hp6, hs6, hl6, hn6⟩
        have HF6 := Go.Lib.hid hf6
        have HG6 := Go.Lib.hid hg6
        have HP6 := Go.Lib.hid hp6
        have HS6 := Go.Lib.hid (HS5.out.trans hs6)
        have HL6 := Go.Lib.hid (And.intro hl6 hn6)
        clear hf6 hg6 hp6 hs6 hl6 hn6
        go_wp2_with fail
        have hlv := pair_lev HF.out.frs HIA.out HIB.out HX.out HVV.out HG5.out HP5.out HG6.out HP6.out
        refine (c_put x pl ph w6 HF6.out HV13.out ⟨HXX.out, HVV.out⟩ hlv.1 hlv.2.1 hlv.2.2.1 hlv.2.2.2 (by have h1 := HPW.out; have h2 := HS1.out.1; have h3 := HL5.out.1; have h4 := HL6.out.1; have := Nat.two_pow_pos m; omega)).mono ?_
        clear hlv
        rintro e w7 ⟨p, v7, F7, rfl, hf7, hp7, hs7⟩
        have HF7 := Go.Lib.hid hf7
        have HP7 := Go.Lib.hid hp7
        have HS7 := Go.Lib.hid (HS6.out.trans hs7)
        have HK7 := Go.Lib.hid ((HS7.out.block _ LT2.out NFB.out).trans HK2.out)
        have HPR := Go.Lib.hid (pair_put HF.out.frs HR.out HIA.out HIB.out HX.out HVV.out HG5.out HF5.out.frs HP5.out HG6.out HF6.out.frs HP6.out hp7)
        obtain ⟨G5, e5⟩ := HG5.out
        obtain ⟨G6, e6⟩ := HG6.out
        obtain ⟨G7, e7, g7⟩ := hp7.ext
        have HEX := Go.Lib.hid (show ∃ G, F7 = F ++ G from ⟨_, by rw [e7, e6, e5, List.append_assoc, List.append_assoc]⟩)
        have HL7 := Go.Lib.hid (show F7.length ≤ F6.length + 1 by rw [e7, List.length_append]; omega)
        clear hf7 hp7 hs7 e5 e6 e7 g7
        go_upto_region 14 with fail
        obtain ⟨M7, hM7, hMs7⟩ := HF7.out.prs
        have HMS7 := Go.Lib.hid hMs7
        obtain ⟨w8, hrun8, hm8, hg8⟩ := IntMap.store (w := w7.drew) (hM7.of_block rfl) prK mapPI (by unfold maxLen; have h1 := HPW.out; have h2 := HS1.out.2; have h3 := HL5.out.2; have h4 := HL6.out.2; omega) HKL.out (z := p) (fits_small HPR.out.inn.1 (by have h0 := HPR.out.inn.2; have h1 := HPW.out; have h2 := HS1.out.1; have h3 := HL5.out.1; have h4 := HL6.out.1; have h5 := HL7.out; omega))
        have HM8 := Go.Lib.hid hm8
        have HG8 := Go.Lib.hid (show w7.grownBy w8 (some pb) from ⟨hg8.os, hg8.tape, hg8.output, hg8.size, hg8.block⟩)
        have hrun9 : (Instr.mapUpdate 94 (.map (some pb)) (.agg #[.int .i64 r, .int .i64 a, .int .i64 b]) (.int .i64 p)).run Tryd.prog w7.drew = .ok () w8 := hrun8
        clear hrun8
        have f2 := cell_of_block (i := 2) HF7.out.blk (v := .map (some pb)) rfl
        have z0 := cell_of_block (i := 0) HK7.out (v := .int .i64 r) rfl
        have z1 := cell_of_block (i := 1) HK7.out (v := .int .i64 a) rfl
        have z2 := cell_of_block (i := 2) HK7.out (v := .int .i64 b) rfl
        clear hM7 hMs7 hm8 hg8
        go_region_law (fail)
        all_goals
          clear hrun9 f2 z0 z1 z2
          go_wp2_with fail
          go_ret
          have hfp := forest_pair HF7.out HKL.out HPR.out HM8.out HMS7.out HG8.out
          exact ⟨_, _, _, _, rfl, hfp.1, HEX.out, HPR.out, (HS2.out.trans HS7.out).trans hfp.2, by have h1 := HPW.out; have h3 := HL5.out.1; have h4 := HL6.out.1; have h5 := HL7.out; omega, by have h1 := HPW.out; have h3 := HL5.out.2; have h4 := HL6.out.2; omega⟩
  · have HXY := Go.Lib.hid (show b ≤ a by omega)
    have HX0 := Go.Lib.hid HIB.out.1
    have hgt : a > b := by omega
    have hpl := c_plainPair r b a HR.out HX0.out HXY.out w
    have HPL := Go.Lib.hid hpl
    clear hpl
    cases hpo : plainOk r b a with
    | true =>
      have HPO := Go.Lib.hid (plain_pair (by omega) HF.out.frs HR.out HIB.out HIA.out HXY.out hpo)
      rw [hpo] at HPL
      clear hpo
      go_enter Tryd.func55, Tryd.ntmps55
      go_wp2_with fail
      refine HPL.out.mono ?_
      rintro e w' ⟨rfl, rfl⟩
      go_wp2_with fail
      go_ret
      exact ⟨_, _, F, np, rfl, HF.out, ⟨[], by simp⟩, HPO.out.swap, FStep.refl _ _ _ _ _, by have := HP2.out; omega, by have := HP2.out; omega⟩
    | false =>
      have hy2 : 2 ≤ a := by
        unfold plainOk at hpo
        by_cases h : a < 2
        · rw [if_pos h] at hpo; cases hpo
        · omega
      rw [hpo] at HPL
      clear hpo
      obtain ⟨hfv, hvv⟩ := firstV_two HF.out.frs HV13.out HIB.out HIA.out (.inr hy2)
      obtain ⟨x, hx⟩ : ∃ x, min (vAt vars F b) (vAt vars F a) = x := ⟨_, rfl⟩
      rw [hx] at hfv hvv
      have HFV := Go.Lib.hid hfv
      have HVV := Go.Lib.hid hvv
      have HX := Go.Lib.hid hx.symm
      have hn1 : 1 ≤ n := by have := HLV.out; omega
      obtain ⟨m, rfl⟩ : ∃ m, n = m + 1 := ⟨n - 1, by omega⟩
      have HIH := Go.Lib.hid (IH m (by omega))
      have hp2 : 2 ^ (m + 1) = 2 * 2 ^ m := by rw [Nat.pow_succ]; omega
      have HPW := Go.Lib.hid hp2
      have HS1 := Go.Lib.hid (show F.length + 2 ^ (m + 1) ≤ 1000000 ∧ np + 2 ^ (m + 1) ≤ 1000000 from ⟨hs1, hs2⟩)
      have fx : fits b := fits_small HX0.out (by have := HIB.out.2; omega)
      have fy : fits a := fits_small (by omega) (by have := HIA.out.2; omega)
      obtain ⟨kl, hkl⟩ := keyOf_pr r b a (rule_fits HR.out) fx fy
      have HKL := Go.Lib.hid hkl
      have HFX := Go.Lib.hid (And.intro fx fy)
      obtain ⟨M, hM, hMs⟩ := HF.out.prs
      obtain ⟨z, ok, hrun, hyes, hno⟩ := hM.look prK mapPI hkl
      have HRUN := Go.Lib.hid hrun
      have hpw := HF.out.lt (.inr (.inr (.inl rfl)))
      obtain ⟨w1c, w2c, w3c, w4c, w5c⟩ := ways_ok HF.out.frs HIB.out (v := x) (by omega) hvv
      obtain ⟨y1c, y2c, y3c, y4c, y5c⟩ := ways_ok HF.out.frs HIA.out (v := x) (by omega) hvv
      have HWX := Go.Lib.hid (And.intro w1c (And.intro w2c (And.intro w3c w4c)))
      have HWY := Go.Lib.hid (And.intro y1c (And.intro y2c (And.intro y3c y4c)))
      have hx0 : 0 ≤ x := by have h1 := (vAt_nonneg (by omega) HF.out.frs HIA.out).1; have h2 := (vAt_nonneg (by omega) HF.out.frs HIB.out).1; omega
      have HXX := Go.Lib.hid hx0
      clear hfv hvv hx hn1 hp2 fx fy hkl hM hrun IH w1c w2c w3c w4c w5c y1c y2c y3c y4c y5c hs1 hs2 hx0 HP2
      cases ok with
      | true =>
        obtain ⟨r', a', b', e1, e2⟩ := hMs _ _ (hyes rfl)
        obtain ⟨rfl, rfl, rfl⟩ := prAgg_inj (prK.inj e1 HKL.out)
        have HE := Go.Lib.hid e2
        clear hyes hno e1 e2 hMs
        go_enter Tryd.func55, Tryd.ntmps55
        go_wp2_with fail
        refine HPL.out.mono ?_
        rintro e w' ⟨rfl, hw⟩
        cases hw
        go_upto_region 7 with fail
        refine code_gen (R := fun wb => wb.heap[w.heap.size]? = some (.cells #[.int .i64 r', .int .i64 a', .int .i64 b'] 99 (0, 0)) ∧ Below w.heap.size w wb) ⟨by first | exact (MapKept.heap_alloc _ _).1 | exact heap_alloc_new _ _, by go_grown⟩ ?_
        rintro w1 ⟨k1, hb1⟩
        have HF1 := Go.Lib.hid (HF.out.below hb1)
        have HS := Go.Lib.hid (fun n => FStep.of_below (fb := fb) (mb := mb) (pb := pb) (v := v) (show Below w.heap.size w (w1.drewN n) from ⟨hb1.os, hb1.tape, hb1.output, hb1.size, hb1.block⟩))
        have hm1 : w1.heap[pb]? = w.heap[pb]? := hb1.block _ hpw
        have hlk : ∀ n, (Instr.lookup 94 (.map (some pb)) (.agg #[.int .i64 r', .int .i64 a', .int .i64 b']) true).run Tryd.prog (w1.drewN n) = .ok (.tuple #[.int .i64 z, .bool true]) (w1.drewN n) := fun n => HRUN.out (w1.drewN n) hm1
        have f2 := cell_of_block (i := 2) HF1.out.blk (v := .map (some pb)) rfl
        have z0 := cell_of_block (i := 0) k1 (v := .int .i64 r') rfl
        have z1 := cell_of_block (i := 1) k1 (v := .int .i64 a') rfl
        have z2 := cell_of_block (i := 2) k1 (v := .int .i64 b') rfl
        clear k1 hb1
        go_quiet (fail)
        clear hlk
        go_wp2_with fail
        go_ret
        exact ⟨_, _, F, np, rfl, HF1.out.keep (fun _ _ => rfl), ⟨[], by simp⟩, HE.out.swap, HS.out _, by have := HPW.out; have := Nat.two_pow_pos m; omega, by have := HPW.out; have := Nat.two_pow_pos m; omega⟩
      | false =>
        clear hyes hno
        have HMS := Go.Lib.hid hMs
        clear hMs
        go_enter Tryd.func55, Tryd.ntmps55
        go_wp2_with fail
        refine HPL.out.mono ?_
        rintro e w' ⟨rfl, hw⟩
        cases hw
        go_upto_region 7 with fail
        refine code_gen (R := fun wb => wb.heap[w.heap.size]? = some (.cells #[.int .i64 r, .int .i64 b, .int .i64 a] 99 (0, 0)) ∧ Below w.heap.size w wb) ⟨by first | exact (MapKept.heap_alloc _ _).1 | exact heap_alloc_new _ _, by go_grown⟩ ?_
        rintro w1 ⟨k1, hb1⟩
        have HF1 := Go.Lib.hid (HF.out.below hb1)
        have HB1 := Go.Lib.hid hb1
        have HK1 := Go.Lib.hid k1
        have hm1 : w1.heap[pb]? = w.heap[pb]? := hb1.block _ hpw
        have hlk : ∀ n, (Instr.lookup 94 (.map (some pb)) (.agg #[.int .i64 r, .int .i64 b, .int .i64 a]) true).run Tryd.prog (w1.drewN n) = .ok (.tuple #[.int .i64 z, .bool false]) (w1.drewN n) := fun n => HRUN.out (w1.drewN n) hm1
        have f2 := cell_of_block (i := 2) HF1.out.blk (v := .map (some pb)) rfl
        have z0 := cell_of_block (i := 0) k1 (v := .int .i64 r) rfl
        have z1 := cell_of_block (i := 1) k1 (v := .int .i64 b) rfl
        have z2 := cell_of_block (i := 2) k1 (v := .int .i64 a) rfl
        clear k1 hb1
        go_quiet (fail)
        clear hlk f2 z0 z1 z2
        go_upto_region 10 with fail
        refine code_gen (R := fun wb => wb.heap[w.heap.size]? = some (.cells #[.int .i64 r, .int .i64 b, .int .i64 a] 99 (0, 0)) ∧ ForestAt vars fb mb pb v F np wb ∧ Below w.heap.size w wb) ⟨HK1.out, HF1.out.keep (fun _ _ => rfl), ⟨HB1.out.os, HB1.out.tape, HB1.out.output, HB1.out.size, HB1.out.block⟩⟩ ?_
        clear HF1 HB1 HK1 hm1 w1
        rintro w1 ⟨k1, hf1, hb1⟩
        have HF1 := Go.Lib.hid hf1
        have HK1 := Go.Lib.hid k1
        have HS1b := Go.Lib.hid (FStep.of_below (fb := fb) (mb := mb) (pb := pb) (v := v) hb1)
        clear k1 hf1 hb1
        go_wp2_with fail
        refine (c_firstVar (B := w1.heap.size + 1) (ps := [b, a]) _ (by simp) (HF1.out.below (by go_grown)) (by have := ints_two b a HFX.out.1 HFX.out.2 w1 3; simpa using this) (by intro p hp; simp at hp; rcases hp with rfl | rfl; exact HIB.out; exact HIA.out)).mono ?_
        rintro e w2 ⟨he, hw2⟩
        rw [HFV.out] at he
        subst he
        subst hw2
        go_upto_region 11 with fail
        refine code_gen (R := fun wb => wb.heap[w.heap.size]? = some (.cells #[.int .i64 r, .int .i64 b, .int .i64 a] 99 (0, 0)) ∧ ForestAt vars fb mb pb v F np wb ∧ FStep fb mb pb v w v wb) ⟨?_, HF1.out.below (by go_grown), HS1b.out.then (by go_grown)⟩ ?_
        · exact (Below.heap_alloc _ _ _ (Array.getElem?_eq_some_iff.1 HK1.out).1).trans HK1.out
        clear HF1 HK1 HS1b
        rintro w2 ⟨k2, hf2, hs2⟩
        have HK2 := Go.Lib.hid k2
        have HF2 := Go.Lib.hid hf2
        have HS2 := Go.Lib.hid hs2
        have LT2 := Go.Lib.hid (Array.getElem?_eq_some_iff.1 k2).1
        clear k2 hf2 hs2
        go_wp2_with fail
        refine (c_ways b x w2 HF2.out HIB.out).mono ?_
        rintro e w3 ⟨rfl, hb3⟩
        have HF3 := Go.Lib.hid (HF2.out.below hb3)
        have HS3 := Go.Lib.hid (FStep.of_below (fb := fb) (mb := mb) (pb := pb) (v := v) hb3)
        clear hb3
        go_wp2_with fail
        refine (c_ways a x w3 HF3.out HIA.out).mono ?_
        rintro e w4 ⟨rfl, hb4⟩
        have HF4 := Go.Lib.hid (HF3.out.below hb4)
        have HS4 := Go.Lib.hid (HS3.out.then hb4)
        clear hb4
        go_wp2_with fail
        refine (HIH.out F np v r (wayL F b x) (wayL F a x) w4 HF4.out HR.out HWX.out.1 HWY.out.1 (by have h1 := HWX.out.2.2.1; have h2 := HWY.out.2.2.1; have h3 := HLV.out; have h4 := HX.out; omega) (by have h1 := HPW.out; have h2 := HS1.out.1; omega) (by have h1 := HPW.out; have h2 := HS1.out.2; omega)).mono ?_
        rintro e w5 ⟨pl, v5, F5, np5, rfl, hf5, hg5, hp5, hs5, hl5, hn5⟩
        have HF5 := Go.Lib.hid hf5
        have HG5 := Go.Lib.hid hg5
        have HP5 := Go.Lib.hid hp5
        have HS5 := Go.Lib.hid (HS4.out.trans hs5)
        have HL5 := Go.Lib.hid (And.intro hl5 hn5)
        clear hf5 hg5 hp5 hs5 hl5 hn5
        go_wp2_with fail
        have hq1 : InF F5 (wayH F b x) ∧ InF F5 (wayH F a x) ∧ vAt vars F5 (wayH F b x) = vAt vars F (wayH F b x) ∧ vAt vars F5 (wayH F a x) = vAt vars F (wayH F a x) := by
          obtain ⟨G, rfl⟩ := HG5.out
          exact ⟨HWX.out.2.1.app G, HWY.out.2.1.app G, vAt_app HWX.out.2.1.2, vAt_app HWY.out.2.1.2⟩
        refine (HIH.out F5 np5 v5 r (wayH F b x) (wayH F a x) w5 HF5.out HR.out hq1.1 hq1.2.1 (by rw [hq1.2.2.1, hq1.2.2.2]; have h1 := HWX.out.2.2.2; have h2 := HWY.out.2.2.2; have h3 := HLV.out; have h4 := HX.out; omega) (by have h1 := HPW.out; have h2 := HS1.out.1; have h3 := HL5.out.1; omega) (by have h1 := HPW.out; have h2 := HS1.out.2; have h3 := HL5.out.2; omega)).mono ?_
        clear hq1
        rintro e w6 ⟨ph, v6, F6, np6, rfl, hf6, hg6, hp6, hs6, hl6, hn6⟩
        have HF6 := Go.Lib.hid hf6
        have HG6 := Go.Lib.hid hg6
        have HP6 := Go.Lib.hid hp6
        have HS6 := Go.Lib.hid (HS5.out.trans hs6)
        have HL6 := Go.Lib.hid (And.intro hl6 hn6)
        clear hf6 hg6 hp6 hs6 hl6 hn6
        go_wp2_with fail
        have hlv := pair_lev HF.out.frs HIB.out HIA.out HX.out HVV.out HG5.out HP5.out HG6.out HP6.out
        refine (c_put x pl ph w6 HF6.out HV13.out ⟨HXX.out, HVV.out⟩ hlv.1 hlv.2.1 hlv.2.2.1 hlv.2.2.2 (by have h1 := HPW.out; have h2 := HS1.out.1; have h3 := HL5.out.1; have h4 := HL6.out.1; have := Nat.two_pow_pos m; omega)).mono ?_
        clear hlv
        rintro e w7 ⟨p, v7, F7, rfl, hf7, hp7, hs7⟩
        have HF7 := Go.Lib.hid hf7
        have HP7 := Go.Lib.hid hp7
        have HS7 := Go.Lib.hid (HS6.out.trans hs7)
        have HK7 := Go.Lib.hid ((HS7.out.block _ LT2.out NFB.out).trans HK2.out)
        have HPR := Go.Lib.hid (pair_put HF.out.frs HR.out HIB.out HIA.out HX.out HVV.out HG5.out HF5.out.frs HP5.out HG6.out HF6.out.frs HP6.out hp7)
        obtain ⟨G5, e5⟩ := HG5.out
        obtain ⟨G6, e6⟩ := HG6.out
        obtain ⟨G7, e7, g7⟩ := hp7.ext
        have HEX := Go.Lib.hid (show ∃ G, F7 = F ++ G from ⟨_, by rw [e7, e6, e5, List.append_assoc, List.append_assoc]⟩)
        have HL7 := Go.Lib.hid (show F7.length ≤ F6.length + 1 by rw [e7, List.length_append]; omega)
        clear hf7 hp7 hs7 e5 e6 e7 g7
        go_upto_region 14 with fail
        obtain ⟨M7, hM7, hMs7⟩ := HF7.out.prs
        have HMS7 := Go.Lib.hid hMs7
        obtain ⟨w8, hrun8, hm8, hg8⟩ := IntMap.store (w := w7.drew) (hM7.of_block rfl) prK mapPI (by unfold maxLen; have h1 := HPW.out; have h2 := HS1.out.2; have h3 := HL5.out.2; have h4 := HL6.out.2; omega) HKL.out (z := p) (fits_small HPR.out.inn.1 (by have h0 := HPR.out.inn.2; have h1 := HPW.out; have h2 := HS1.out.1; have h3 := HL5.out.1; have h4 := HL6.out.1; have h5 := HL7.out; omega))
        have HM8 := Go.Lib.hid hm8
        have HG8 := Go.Lib.hid (show w7.grownBy w8 (some pb) from ⟨hg8.os, hg8.tape, hg8.output, hg8.size, hg8.block⟩)
        have hrun9 : (Instr.mapUpdate 94 (.map (some pb)) (.agg #[.int .i64 r, .int .i64 b, .int .i64 a]) (.int .i64 p)).run Tryd.prog w7.drew = .ok () w8 := hrun8
        clear hrun8
        have f2 := cell_of_block (i := 2) HF7.out.blk (v := .map (some pb)) rfl
        have z0 := cell_of_block (i := 0) HK7.out (v := .int .i64 r) rfl
        have z1 := cell_of_block (i := 1) HK7.out (v := .int .i64 b) rfl
        have z2 := cell_of_block (i := 2) HK7.out (v := .int .i64 a) rfl
        clear hM7 hMs7 hm8 hg8
        go_region_law (fail)
        all_goals
          clear hrun9 f2 z0 z1 z2
          go_wp2_with fail
          go_ret
          have hfp := forest_pair HF7.out HKL.out HPR.out HM8.out HMS7.out HG8.out
          exact ⟨_, _, _, _, rfl, hfp.1, HEX.out, HPR.out.swap, (HS2.out.trans HS7.out).trans hfp.2, by have h1 := HPW.out; have h3 := HL5.out.1; have h4 := HL6.out.1; have h5 := HL7.out; omega, by have h1 := HPW.out; have h3 := HL5.out.2; have h4 := HL6.out.2; omega⟩
end Go.Proofs.YthdofdglbdfkkaaDoor
