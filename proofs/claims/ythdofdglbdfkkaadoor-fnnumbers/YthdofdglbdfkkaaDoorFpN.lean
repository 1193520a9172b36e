/-
  What is drawn for a list of numbers.
-/
import Derived.Test.YthdofdglbdfkkaaDoorRows
import Derived.Test.YthdofdglbdfkkaaDoorPaA
import Derived.Test.YthdofdglbdfkkaaDoorG0
import Derived.Test.YthdofdglbdfkkaaDoorRd
import Derived.Test.YthdofdglbdfkkaaDoorBdW
import Derived.Test.YthdofdglbdfkkaaDoorFpD
import Derived.WalkKit
import Derived.ProofKit
import Derived.OpenShut
import Derived.WalkSpells
import Derived.WalkLawsBesides
import Derived.Outline
import Derived.BigQuiet
import Derived.Handy
import Derived.LoopTactic
import Derived.Deep.Light
import Derived.Deep.RegionWith
import Derived.Deep.RegionHeld3
import Derived.Deep.DeepCutAuto
import Derived.Lib.Hide
import Derived.Maps.OwnRows
import Derived.Deep.Onto
import Derived.OneCell
import Derived.StillTailTactics
import Derived.Deep.AppendLies
import Derived.Deep.RegionLaw
namespace Go.Proofs.YthdofdglbdfkkaaDoor
open Go.ChangeShapes Go.WideShapes Go.ChangeAt Go.RowKit Go.Maps Go.ChangeMaps
set_option linter.unusedVariables false
set_option maxRecDepth 100000

/-- A list that is drawn, the reader in block R. -/
structure FrAt (R : Nat) (q : Int) (w : World) (s : Value) (zs : List Int) (wr : World) : Prop where
  own : wr.ownsInts (R + 1) 3 .i64 s zs
  rd : RdTo w.heap.size R q wr
  le0 : w.heap.size ≤ R
  bel : Below w.heap.size w wr
theorem FrAt.lt {R : Nat} {q : Int} {w wr : World} {s : Value} {zs : List Int} (h : FrAt R q w s zs wr) : R < wr.heap.size := h.rd.lt
theorem FrAt.le {R : Nat} {q : Int} {w wr : World} {s : Value} {zs : List Int} (h : FrAt R q w s zs wr) : w.heap.size ≤ R + 1 := Nat.le_succ_of_le h.le0
theorem FrAt.only {R : Nat} {q q' : Int} {w wr w' : World} {s : Value} {zs : List Int} (h : FrAt R q w s zs wr) (hO : Only R wr w') (hr : RdTo w.heap.size R q' w') : FrAt R q' w s zs w' :=
  ⟨own_block h.own (fun g h1 h2 _ => hO.block g h2 (by omega)), hr, h.le0, h.bel.trans (hO.below h.le0 h.bel.size)⟩
theorem FrAt.more {R : Nat} {q q' : Int} {w wr : World} {s : Value} {zs : List Int} (h : FrAt R q w s zs wr) (hq : q ≤ q') : FrAt R q' w s zs wr := ⟨h.own, h.rd.mono hq, h.le0, h.bel⟩
theorem FrAt.app {R : Nat} {q : Int} {w wr w4 : World} {o : Obj} {s v' : Value} {zs : List Int} {m : Int} (h : FrAt R q w s zs wr) (hg : (wr.alloc o).grownBy w4 s.ownBlock)
    (hown : w4.ownsRow (R + 1) 3 1 v' (zs.length + 1) (zs.map (Value.int .i64) ++ [.int .i64 m])) (hm : (Lit.int .i64 m).wf = true) : FrAt R q w v' (zs ++ [m]) w4 := by
  have hR := h.lt
  have h0 := h.le0
  have hb : Below (R + 1) wr w4 := ((Below.refl (R + 1) wr).alloc (by omega) o).grown hg (by show R + 1 ≤ (wr.heap.push o).size; simp; omega) (fun g hg2 => (h.own.1.lt g hg2).1)
  refine ⟨⟨?_, ?_⟩, h.rd.below hb (by omega) (by omega), h0, h.bel.trans (hb.mono (by omega))⟩
  · rw [List.length_append, List.map_append]; exact hown
  · intro y hy
    rw [List.mem_append] at hy
    rcases hy with hy | hy
    · exact h.own.2 y hy
    · simp at hy; subst hy; exact hm

/-- What is drawn: a number of bits, and numbers. -/
def DrFromQ (w : World) (e : Ending) (w' : World) : Prop :=
  ∃ n v zs, e = .returned (.tuple #[.int .i64 n, v]) ∧ w'.ownsInts w.heap.size 3 .i64 v zs ∧ (∀ z ∈ zs, -1 ≤ z ∧ z ≤ 64) ∧ zs.length ≤ 257 ∧ (-1 ≤ n ∧ n ≤ 14) ∧ Below w.heap.size w w'

set_option maxHeartbeats 16000000 in
theorem c_DrawBddFrom {B : Nat} {a : Option Addr} {len cap : Nat} (w : World) (h : BytesAt B w a len cap) (hB : B ≤ w.heap.size) :
    Calls Tryd.prog 21 #[.slice a len cap] w (DrFromQ w) := by
  have H := Go.Lib.hid (h.mono hB)
  clear h hB
  obtain ⟨i1, hi1, hz01, hz11, hz21⟩ := info_parts intInfo
  have HI1 := Go.Lib.hid hi1
  have HZ01 := Go.Lib.hid hz01
  have HZ11 := Go.Lib.hid hz11
  have HZ21 := Go.Lib.hid hz21
  clear hi1 hz01 hz11 hz21
  go_enter Tryd.func21, Tryd.ntmps21
  go_wp2_with fail
  refine (c_l17Open (B := w.heap.size) w H.out (Nat.le_refl _)).mono ?_
  rintro e w1 ⟨rfl, r1, b1⟩
  obtain ⟨R, hR⟩ : ∃ k, w.heap.size = k := ⟨_, rfl⟩
  have HR1 := Go.Lib.hid (show RdTo w.heap.size R 0 w1 ∧ w.heap.size ≤ R ∧ Below w.heap.size w w1 from ⟨by rw [← hR]; exact r1, by omega, b1⟩)
  rw [hR]
  clear r1 b1 hR
  go_wp2_with fail
  refine (c_vars w1 HR1.out.1 (by omega)).mono ?_
  rintro e w2 ⟨n, rfl, hn1, hn2, hr, ho⟩
  have HN := Go.Lib.hid (And.intro hn1 hn2)
  have HR2 := Go.Lib.hid (And.intro hr (And.intro HR1.out.2.1 (HR1.out.2.2.trans (ho.below HR1.out.2.1 HR1.out.2.2.size))))
  clear hr ho HR1
  go_wp2_with fail
  refine (k_pick _ _ HR2.out.1 (by omega)).mono ?_
  rintro e w3 ⟨v3, rfl, hv3, hr, ho⟩
  have hv3 := hv3 (by omega)
  have HR3 := Go.Lib.hid (And.intro hr (And.intro HR2.out.2.1 (HR2.out.2.2.trans (ho.below HR2.out.2.1 HR2.out.2.2.size))))
  clear hr ho HR2
  go_wp2_with fail
  refine (k_pick _ _ HR3.out.1 (by omega)).mono ?_
  rintro e w4 ⟨v4, rfl, hv4, hr, ho⟩
  have hv4 := hv4 (by omega)
  have HR4 := Go.Lib.hid (And.intro hr (And.intro HR3.out.2.1 (HR3.out.2.2.trans (ho.below HR3.out.2.1 HR3.out.2.2.size))))
  clear hr ho HR3
  by_cases hz : v4 = 0
  · subst hz
    go_wp2_with fail
    refine (k_pick _ _ HR4.out.1 (by omega)).mono ?_
    rintro e w5 ⟨v5, rfl, hv5, hr, ho⟩
    have hv5 := hv5 (by omega)
    replace HR4 := Go.Lib.hid (And.intro hr (And.intro HR4.out.2.1 (HR4.out.2.2.trans (ho.below HR4.out.2.1 HR4.out.2.2.size))))
    clear hr ho
    go_upto_region 6 with fail
    obtain ⟨K, hK⟩ : ∃ K : Int, 255 + v5 = K := ⟨_, rfl⟩
    rw [hK]
    have hK1 : 0 ≤ K ∧ K ≤ 257 := by omega
    clear hK hv5 hv3 hv4
    go_wp2_with fail
    go_loopw [7, 8, 9] (fun s i _ wr => ∃ (k : Nat) (zs : List Int), (k : Int) ≤ K ∧ i = .int .i64 k ∧ zs.length = k ∧ (∀ z ∈ zs, -1 ≤ z ∧ z ≤ 64) ∧ FrAt R (10 + 3 * k) w s zs wr) (fun _ i _ _ => (K - intOf i).toNat)
    case atStart => exact ⟨0, [], by omega, rfl, rfl, by simp, World.ownsInts_nil _ _ _ _, HR4.out.1.mono (by omega), HR4.out.2.1, HR4.out.2.2⟩
    case round =>
      obtain ⟨k, zs, hk, rfl, hzl, hzb, hfr⟩ := hrel
      have HF := Go.Lib.hid hfr
      clear hfr
      by_cases hkl : (k : Int) < K
      · go_wp2_with fail
        refine (k_pick _ _ HF.out.rd (by omega)).mono ?_
        rintro e wa ⟨v, rfl, hv, hRa, hOa⟩
        have hv := hv (by omega)
        have HA := Go.Lib.hid (HF.out.only hOa hRa)
        clear hRa hOa
        by_cases hn0 : 0 ≤ n
        · by_cases hn6 : n < 6
          · have hw := wrap_p2 (n := n) (by omega)
            have hp := p2_pos n.toNat
            have hp2 : ¬ (2 : Int) ^ n.toNat = 0 := by omega
            go_wp2_with fail
            refine (k_pick _ _ HA.out.rd (by omega)).mono ?_
            rintro e wb ⟨u, rfl, hu, hRb, hOb⟩
            have hu := hu (by omega)
            have HB := Go.Lib.hid (HA.out.only hOb hRb)
            clear hRb hOb
            by_cases hu0 : 0 < u
            · obtain ⟨x, hx, hx0, hx1⟩ : ∃ x, v.tmod (2 ^ n.toNat) = x ∧ 0 ≤ x ∧ x ≤ 63 := ⟨_, rfl, by rw [Int.tmod_eq_emod_of_nonneg hv.1]; exact Int.emod_nonneg _ hp2, by
                have e1 := Int.tmod_eq_emod_of_nonneg (b := 2 ^ n.toNat) hv.1
                have e2 := Int.emod_add_mul_ediv v (2 ^ n.toNat)
                have e3 : 0 ≤ 2 ^ n.toNat * (v / 2 ^ n.toNat) := Int.mul_nonneg (by omega) (Int.ediv_nonneg hv.1 (by omega))
                omega⟩
              have HX := HB
              clear HA HB HF
              go_wp2_with fail
              refine (k_pick _ _ HX.out.rd (by omega)).mono ?_
              rintro e wd ⟨q, rfl, hq, hRd, hOd⟩
              have hq := hq (by omega)
              have HD := Go.Lib.hid (HX.out.only hOd hRd)
              have hRd2 := HD.out.lt
              clear hRd hOd
              obtain ⟨d, hd, hd0, hd1⟩ : ∃ d, q.tdiv 59 = d ∧ 0 ≤ d ∧ d ≤ 1 := ⟨_, rfl, by rw [Int.tdiv_eq_ediv_of_nonneg hq.1]; omega, by rw [Int.tdiv_eq_ediv_of_nonneg hq.1]; omega⟩
              go_wp2_with (first | (at_builtin; go_loud (refine wpList_append_own_at _ rfl _ _ 43 rfl (R + 1) 3 i1 (.int .i64 0) 1 8 Tryd.underlying43 HI1.out HZ01.out HZ11.out HZ21.out rfl (by decide) _ _ _ rfl (HD.out.own.1.alloc _) ⟨wd.heap.size, 0, none⟩ 1 1 [.int .i64 (x - d)] rfl rfl (cell_one_new _ _ _) (ints_oneCell .i64 [x - d]) (by unfold maxLen; omega) (by omega) (by simp; omega) ?_; intro v' w4 hown' hgrow' hnil hloc); have HQ := Go.Lib.hid (HD.out.app hgrow' hown' (WalkArith.wf_i64 (by omega))); clear hown' hgrow' hnil hloc) | go_in)
              go_roundw
              case rel => first | exact ⟨k + 1, zs ++ [x - d], by omega, by go_num, by rw [List.length_append, hzl]; rfl, by intro y hy; rw [List.mem_append] at hy; rcases hy with hy | hy; exact hzb y hy; simp at hy; omega, HQ.out.more (by omega)⟩ | exact ⟨.int .i64 0, k + 1, zs ++ [x - d], by omega, by go_num, by rw [List.length_append, hzl]; rfl, by intro y hy; rw [List.mem_append] at hy; rcases hy with hy | hy; exact hzb y hy; simp at hy; omega, HQ.out.more (by omega)⟩
              case measure => simp [intOf] <;> omega
            · obtain ⟨x, hx, hx0, hx1⟩ : ∃ x, v = x ∧ 0 ≤ x ∧ x ≤ 63 := ⟨_, rfl, hv.1, by omega⟩
              subst hx
              have HX := HB
              clear HA HB HF
              go_wp2_with fail
              refine (k_pick _ _ HX.out.rd (by omega)).mono ?_
              rintro e wd ⟨q, rfl, hq, hRd, hOd⟩
              have hq := hq (by omega)
              have HD := Go.Lib.hid (HX.out.only hOd hRd)
              have hRd2 := HD.out.lt
              clear hRd hOd
              obtain ⟨d, hd, hd0, hd1⟩ : ∃ d, q.tdiv 59 = d ∧ 0 ≤ d ∧ d ≤ 1 := ⟨_, rfl, by rw [Int.tdiv_eq_ediv_of_nonneg hq.1]; omega, by rw [Int.tdiv_eq_ediv_of_nonneg hq.1]; omega⟩
              go_wp2_with (first | (at_builtin; go_loud (refine wpList_append_own_at _ rfl _ _ 43 rfl (R + 1) 3 i1 (.int .i64 0) 1 8 Tryd.underlying43 HI1.out HZ01.out HZ11.out HZ21.out rfl (by decide) _ _ _ rfl (HD.out.own.1.alloc _) ⟨wd.heap.size, 0, none⟩ 1 1 [.int .i64 (v - d)] rfl rfl (cell_one_new _ _ _) (ints_oneCell .i64 [v - d]) (by unfold maxLen; omega) (by omega) (by simp; omega) ?_; intro v' w4 hown' hgrow' hnil hloc); have HQ := Go.Lib.hid (HD.out.app hgrow' hown' (WalkArith.wf_i64 (by omega))); clear hown' hgrow' hnil hloc) | go_in)
              go_roundw
              case rel => first | exact ⟨k + 1, zs ++ [v - d], by omega, by go_num, by rw [List.length_append, hzl]; rfl, by intro y hy; rw [List.mem_append] at hy; rcases hy with hy | hy; exact hzb y hy; simp at hy; omega, HQ.out.more (by omega)⟩ | exact ⟨.int .i64 0, k + 1, zs ++ [v - d], by omega, by go_num, by rw [List.length_append, hzl]; rfl, by intro y hy; rw [List.mem_append] at hy; rcases hy with hy | hy; exact hzb y hy; simp at hy; omega, HQ.out.more (by omega)⟩
              case measure => simp [intOf] <;> omega
          · have HX := HA
            clear HA HF
            go_wp2_with fail
            refine (k_pick _ _ HX.out.rd (by omega)).mono ?_
            rintro e wd ⟨q, rfl, hq, hRd, hOd⟩
            have hq := hq (by omega)
            have HD := Go.Lib.hid (HX.out.only hOd hRd)
            have hRd2 := HD.out.lt
            clear hRd hOd
            obtain ⟨d, hd, hd0, hd1⟩ : ∃ d, q.tdiv 59 = d ∧ 0 ≤ d ∧ d ≤ 1 := ⟨_, rfl, by rw [Int.tdiv_eq_ediv_of_nonneg hq.1]; omega, by rw [Int.tdiv_eq_ediv_of_nonneg hq.1]; omega⟩
            go_wp2_with (first | (at_builtin; go_loud (refine wpList_append_own_at _ rfl _ _ 43 rfl (R + 1) 3 i1 (.int .i64 0) 1 8 Tryd.underlying43 HI1.out HZ01.out HZ11.out HZ21.out rfl (by decide) _ _ _ rfl (HD.out.own.1.alloc _) ⟨wd.heap.size, 0, none⟩ 1 1 [.int .i64 (v - d)] rfl rfl (cell_one_new _ _ _) (ints_oneCell .i64 [v - d]) (by unfold maxLen; omega) (by omega) (by simp; omega) ?_; intro v' w4 hown' hgrow' hnil hloc); have HQ := Go.Lib.hid (HD.out.app hgrow' hown' (WalkArith.wf_i64 (by omega))); clear hown' hgrow' hnil hloc) | go_in)
            go_roundw
            case rel => first | exact ⟨k + 1, zs ++ [v - d], by omega, by go_num, by rw [List.length_append, hzl]; rfl, by intro y hy; rw [List.mem_append] at hy; rcases hy with hy | hy; exact hzb y hy; simp at hy; omega, HQ.out.more (by omega)⟩ | exact ⟨.int .i64 0, k + 1, zs ++ [v - d], by omega, by go_num, by rw [List.length_append, hzl]; rfl, by intro y hy; rw [List.mem_append] at hy; rcases hy with hy | hy; exact hzb y hy; simp at hy; omega, HQ.out.more (by omega)⟩
            case measure => simp [intOf] <;> omega
        · have HX := HA
          clear HA HF
          go_wp2_with fail
          refine (k_pick _ _ HX.out.rd (by omega)).mono ?_
          rintro e wd ⟨q, rfl, hq, hRd, hOd⟩
          have hq := hq (by omega)
          have HD := Go.Lib.hid (HX.out.only hOd hRd)
          have hRd2 := HD.out.lt
          clear hRd hOd
          obtain ⟨d, hd, hd0, hd1⟩ : ∃ d, q.tdiv 59 = d ∧ 0 ≤ d ∧ d ≤ 1 := ⟨_, rfl, by rw [Int.tdiv_eq_ediv_of_nonneg hq.1]; omega, by rw [Int.tdiv_eq_ediv_of_nonneg hq.1]; omega⟩
          go_wp2_with (first | (at_builtin; go_loud (refine wpList_append_own_at _ rfl _ _ 43 rfl (R + 1) 3 i1 (.int .i64 0) 1 8 Tryd.underlying43 HI1.out HZ01.out HZ11.out HZ21.out rfl (by decide) _ _ _ rfl (HD.out.own.1.alloc _) ⟨wd.heap.size, 0, none⟩ 1 1 [.int .i64 (v - d)] rfl rfl (cell_one_new _ _ _) (ints_oneCell .i64 [v - d]) (by unfold maxLen; omega) (by omega) (by simp; omega) ?_; intro v' w4 hown' hgrow' hnil hloc); have HQ := Go.Lib.hid (HD.out.app hgrow' hown' (WalkArith.wf_i64 (by omega))); clear hown' hgrow' hnil hloc) | go_in)
          go_roundw
          case rel => first | exact ⟨k + 1, zs ++ [v - d], by omega, by go_num, by rw [List.length_append, hzl]; rfl, by intro y hy; rw [List.mem_append] at hy; rcases hy with hy | hy; exact hzb y hy; simp at hy; omega, HQ.out.more (by omega)⟩ | exact ⟨.int .i64 0, k + 1, zs ++ [v - d], by omega, by go_num, by rw [List.length_append, hzl]; rfl, by intro y hy; rw [List.mem_append] at hy; rcases hy with hy | hy; exact hzb y hy; simp at hy; omega, HQ.out.more (by omega)⟩
          case measure => simp [intOf] <;> omega
      · go_wp2_with fail
        go_ret2
        exact ⟨n, _, zs, rfl, own_mono HF.out.own HF.out.le, hzb, by omega, HN.out, HF.out.bel⟩
  · go_upto_region 6 with fail
    have hK1 : 0 ≤ v3 ∧ v3 ≤ 257 := by omega
    rename_i hvz KK hKK
    obtain ⟨bz, hbz⟩ : ∃ bz, (v4 == 0) = bz := ⟨_, rfl⟩
    rw [hbz]
    clear hv3 hv4 hz hvz hbz
    go_wp2_with fail
    go_loopw [7, 8, 9] (fun s i _ wr => ∃ (k : Nat) (zs : List Int), (k : Int) ≤ v3 ∧ i = .int .i64 k ∧ zs.length = k ∧ (∀ z ∈ zs, -1 ≤ z ∧ z ≤ 64) ∧ FrAt R (10 + 3 * k) w s zs wr) (fun _ i _ _ => (v3 - intOf i).toNat)
    case atStart => exact ⟨0, [], by omega, rfl, rfl, by simp, World.ownsInts_nil _ _ _ _, HR4.out.1.mono (by omega), HR4.out.2.1, HR4.out.2.2⟩
    case round =>
      obtain ⟨k, zs, hk, rfl, hzl, hzb, hfr⟩ := hrel
      have HF := Go.Lib.hid hfr
      clear hfr
      by_cases hkl : (k : Int) < v3
      · go_wp2_with fail
        refine (k_pick _ _ HF.out.rd (by omega)).mono ?_
        rintro e wa ⟨v, rfl, hv, hRa, hOa⟩
        have hv := hv (by omega)
        have HA := Go.Lib.hid (HF.out.only hOa hRa)
        clear hRa hOa
        by_cases hn0 : 0 ≤ n
        · by_cases hn6 : n < 6
          · have hw := wrap_p2 (n := n) (by omega)
            have hp := p2_pos n.toNat
            have hp2 : ¬ (2 : Int) ^ n.toNat = 0 := by omega
            go_wp2_with fail
            refine (k_pick _ _ HA.out.rd (by omega)).mono ?_
            rintro e wb ⟨u, rfl, hu, hRb, hOb⟩
            have hu := hu (by omega)
            have HB := Go.Lib.hid (HA.out.only hOb hRb)
            clear hRb hOb
            by_cases hu0 : 0 < u
            · obtain ⟨x, hx, hx0, hx1⟩ : ∃ x, v.tmod (2 ^ n.toNat) = x ∧ 0 ≤ x ∧ x ≤ 63 := ⟨_, rfl, by rw [Int.tmod_eq_emod_of_nonneg hv.1]; exact Int.emod_nonneg _ hp2, by
                have e1 := Int.tmod_eq_emod_of_nonneg (b := 2 ^ n.toNat) hv.1
                have e2 := Int.emod_add_mul_ediv v (2 ^ n.toNat)
                have e3 : 0 ≤ 2 ^ n.toNat * (v / 2 ^ n.toNat) := Int.mul_nonneg (by omega) (Int.ediv_nonneg hv.1 (by omega))
                omega⟩
              have HX := HB
              clear HA HB HF
              go_wp2_with fail
              refine (k_pick _ _ HX.out.rd (by omega)).mono ?_
              rintro e wd ⟨q, rfl, hq, hRd, hOd⟩
              have hq := hq (by omega)
              have HD := Go.Lib.hid (HX.out.only hOd hRd)
              have hRd2 := HD.out.lt
              clear hRd hOd
              obtain ⟨d, hd, hd0, hd1⟩ : ∃ d, q.tdiv 59 = d ∧ 0 ≤ d ∧ d ≤ 1 := ⟨_, rfl, by rw [Int.tdiv_eq_ediv_of_nonneg hq.1]; omega, by rw [Int.tdiv_eq_ediv_of_nonneg hq.1]; omega⟩
              go_wp2_with (first | (at_builtin; go_loud (refine wpList_append_own_at _ rfl _ _ 43 rfl (R + 1) 3 i1 (.int .i64 0) 1 8 Tryd.underlying43 HI1.out HZ01.out HZ11.out HZ21.out rfl (by decide) _ _ _ rfl (HD.out.own.1.alloc _) ⟨wd.heap.size, 0, none⟩ 1 1 [.int .i64 (x - d)] rfl rfl (cell_one_new _ _ _) (ints_oneCell .i64 [x - d]) (by unfold maxLen; omega) (by omega) (by simp; omega) ?_; intro v' w4 hown' hgrow' hnil hloc); have HQ := Go.Lib.hid (HD.out.app hgrow' hown' (WalkArith.wf_i64 (by omega))); clear hown' hgrow' hnil hloc) | go_in)
              go_roundw
              case rel => first | exact ⟨k + 1, zs ++ [x - d], by omega, by go_num, by rw [List.length_append, hzl]; rfl, by intro y hy; rw [List.mem_append] at hy; rcases hy with hy | hy; exact hzb y hy; simp at hy; omega, HQ.out.more (by omega)⟩ | exact ⟨.int .i64 0, k + 1, zs ++ [x - d], by omega, by go_num, by rw [List.length_append, hzl]; rfl, by intro y hy; rw [List.mem_append] at hy; rcases hy with hy | hy; exact hzb y hy; simp at hy; omega, HQ.out.more (by omega)⟩
              case measure => simp [intOf] <;> omega
            · obtain ⟨x, hx, hx0, hx1⟩ : ∃ x, v = x ∧ 0 ≤ x ∧ x ≤ 63 := ⟨_, rfl, hv.1, by omega⟩
              subst hx
              have HX := HB
              clear HA HB HF
              go_wp2_with fail
              refine (k_pick _ _ HX.out.rd (by omega)).mono ?_
              rintro e wd ⟨q, rfl, hq, hRd, hOd⟩
              have hq := hq (by omega)
              have HD := Go.Lib.hid (HX.out.only hOd hRd)
              have hRd2 := HD.out.lt
              clear hRd hOd
              obtain ⟨d, hd, hd0, hd1⟩ : ∃ d, q.tdiv 59 = d ∧ 0 ≤ d ∧ d ≤ 1 := ⟨_, rfl, by rw [Int.tdiv_eq_ediv_of_nonneg hq.1]; omega, by rw [Int.tdiv_eq_ediv_of_nonneg hq.1]; omega⟩
              go_wp2_with (first | (at_builtin; go_loud (refine wpList_append_own_at _ rfl _ _ 43 rfl (R + 1) 3 i1 (.int .i64 0) 1 8 Tryd.underlying43 HI1.out HZ01.out HZ11.out HZ21.out rfl (by decide) _ _ _ rfl (HD.out.own.1.alloc _) ⟨wd.heap.size, 0, none⟩ 1 1 [.int .i64 (v - d)] rfl rfl (cell_one_new _ _ _) (ints_oneCell .i64 [v - d]) (by unfold maxLen; omega) (by omega) (by simp; omega) ?_; intro v' w4 hown' hgrow' hnil hloc); have HQ := Go.Lib.hid (HD.out.app hgrow' hown' (WalkArith.wf_i64 (by omega))); clear hown' hgrow' hnil hloc) | go_in)
              go_roundw
              case rel => first | exact ⟨k + 1, zs ++ [v - d], by omega, by go_num, by rw [List.length_append, hzl]; rfl, by intro y hy; rw [List.mem_append] at hy; rcases hy with hy | hy; exact hzb y hy; simp at hy; omega, HQ.out.more (by omega)⟩ | exact ⟨.int .i64 0, k + 1, zs ++ [v - d], by omega, by go_num, by rw [List.length_append, hzl]; rfl, by intro y hy; rw [List.mem_append] at hy; rcases hy with hy | hy; exact hzb y hy; simp at hy; omega, HQ.out.more (by omega)⟩
              case measure => simp [intOf] <;> omega
          · have HX := HA
            clear HA HF
            go_wp2_with fail
            refine (k_pick _ _ HX.out.rd (by omega)).mono ?_
            rintro e wd ⟨q, rfl, hq, hRd, hOd⟩
            have hq := hq (by omega)
            have HD := Go.Lib.hid (HX.out.only hOd hRd)
            have hRd2 := HD.out.lt
            clear hRd hOd
            obtain ⟨d, hd, hd0, hd1⟩ : ∃ d, q.tdiv 59 = d ∧ 0 ≤ d ∧ d ≤ 1 := ⟨_, rfl, by rw [Int.tdiv_eq_ediv_of_nonneg hq.1]; omega, by rw [Int.tdiv_eq_ediv_of_nonneg hq.1]; omega⟩
            go_wp2_with (first | (at_builtin; go_loud (refine wpList_append_own_at _ rfl _ _ 43 rfl (R + 1) 3 i1 (.int .i64 0) 1 8 Tryd.underlying43 HI1.out HZ01.out HZ11.out HZ21.out rfl (by decide) _ _ _ rfl (HD.out.own.1.alloc _) ⟨wd.heap.size, 0, none⟩ 1 1 [.int .i64 (v - d)] rfl rfl (cell_one_new _ _ _) (ints_oneCell .i64 [v - d]) (by unfold maxLen; omega) (by omega) (by simp; omega) ?_; intro v' w4 hown' hgrow' hnil hloc); have HQ := Go.Lib.hid (HD.out.app hgrow' hown' (WalkArith.wf_i64 (by omega))); clear hown' hgrow' hnil hloc) | go_in)
            go_roundw
            case rel => first | exact ⟨k + 1, zs ++ [v - d], by omega, by go_num, by rw [List.length_append, hzl]; rfl, by intro y hy; rw [List.mem_append] at hy; rcases hy with hy | hy; exact hzb y hy; simp at hy; omega, HQ.out.more (by omega)⟩ | exact ⟨.int .i64 0, k + 1, zs ++ [v - d], by omega, by go_num, by rw [List.length_append, hzl]; rfl, by intro y hy; rw [List.mem_append] at hy; rcases hy with hy | hy; exact hzb y hy; simp at hy; omega, HQ.out.more (by omega)⟩
            case measure => simp [intOf] <;> omega
        · have HX := HA
          clear HA HF
          go_wp2_with fail
          refine (k_pick _ _ HX.out.rd (by omega)).mono ?_
          rintro e wd ⟨q, rfl, hq, hRd, hOd⟩
          have hq := hq (by omega)
          have HD := Go.Lib.hid (HX.out.only hOd hRd)
          have hRd2 := HD.out.lt
          clear hRd hOd
          obtain ⟨d, hd, hd0, hd1⟩ : ∃ d, q.tdiv 59 = d ∧ 0 ≤ d ∧ d ≤ 1 := ⟨_, rfl, by rw [Int.tdiv_eq_ediv_of_nonneg hq.1]; omega, by rw [Int.tdiv_eq_ediv_of_nonneg hq.1]; omega⟩
          go_wp2_with (first | (at_builtin; go_loud (refine wpList_append_own_at _ rfl _ _ 43 rfl (R + 1) 3 i1 (.int .i64 0) 1 8 Tryd.underlying43 HI1.out HZ01.out HZ11.out HZ21.out rfl (by decide) _ _ _ rfl (HD.out.own.1.alloc _) ⟨wd.heap.size, 0, none⟩ 1 1 [.int .i64 (v - d)] rfl rfl (cell_one_new _ _ _) (ints_oneCell .i64 [v - d]) (by unfold maxLen; omega) (by omega) (by simp; omega) ?_; intro v' w4 hown' hgrow' hnil hloc); have HQ := Go.Lib.hid (HD.out.app hgrow' hown' (WalkArith.wf_i64 (by omega))); clear hown' hgrow' hnil hloc) | go_in)
          go_roundw
          case rel => first | exact ⟨k + 1, zs ++ [v - d], by omega, by go_num, by rw [List.length_append, hzl]; rfl, by intro y hy; rw [List.mem_append] at hy; rcases hy with hy | hy; exact hzb y hy; simp at hy; omega, HQ.out.more (by omega)⟩ | exact ⟨.int .i64 0, k + 1, zs ++ [v - d], by omega, by go_num, by rw [List.length_append, hzl]; rfl, by intro y hy; rw [List.mem_append] at hy; rcases hy with hy | hy; exact hzb y hy; simp at hy; omega, HQ.out.more (by omega)⟩
          case measure => simp [intOf] <;> omega
      · go_wp2_with fail
        go_ret2
        exact ⟨n, _, zs, rfl, own_mono HF.out.own HF.out.le, hzb, by omega, HN.out, HF.out.bel⟩
end Go.Proofs.YthdofdglbdfkkaaDoor
