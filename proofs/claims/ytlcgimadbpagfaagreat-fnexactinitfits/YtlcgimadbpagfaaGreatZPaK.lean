/-
  Parts: PaK, shortened.
-/
import Derived.Test.YtlcgimadbpagfaaGreatZValO
import Derived.StillTailTactics
import Derived.Deep.RegionLaw
namespace Go.Proofs.YtlcgimadbpagfaaGreat
open Go.Lib
open Go.ChangeShapes Go.WideShapes Go.ChangeAt Go.RowKit Go.Maps
set_option linter.unusedVariables false
set_option maxRecDepth 100000
end Go.Proofs.YtlcgimadbpagfaaGreat
namespace Go.Proofs.YtlcgimadbpagfaaGreat
open Go.Lib
open Go.ChangeShapes Go.WideShapes Go.ChangeAt Go.RowKit Go.Maps
set_option linter.unusedVariables false
set_option maxRecDepth 100000
def zer (P : List Int) (ns : List ND) : Nat → List (List Int)
 | 0 => []
 | k + 1 => zer P ns k ++ [List.replicate (cellsN (ns.getD (P.getD k 0).toNat default).si (ns.getD (P.getD k 0).toNat default).sw).toNat 0]
theorem zer_len (P : List Int) (ns : List ND) (k : Nat) : (zer P ns k).length = k := by
 induction k with
 | zero => rfl
 | succ k ih => simp [zer, ih]
end Go.Proofs.YtlcgimadbpagfaaGreat
namespace Go.Proofs.YtlcgimadbpagfaaGreat
open Go.Lib
open Go.ChangeShapes Go.WideShapes Go.ChangeAt Go.RowKit Go.Maps
set_option linter.unusedVariables false
set_option maxRecDepth 100000
def ZeroP (kind : Int) (ns : List ND) (w : World) (e : Ending) (w' : World) : Prop := ∃ v xs, e = .returned v ∧ ValRow w.heap.size w' v xs ∧ xs.map Prod.snd = zer (plcs kind ns ns.length) ns (plcs kind ns ns.length).length ∧ Below w.heap.size w w'
def ZeroR (P : List Int) (ns : List ND) (w : World) (s i : Value) (wr : World) : Prop := ∃ (t : Nat) (xs : List (Value × List Int)), t ≤ P.length ∧ i = .int .i64 t ∧ ValRow w.heap.size wr s xs ∧ xs.map Prod.snd = zer P ns t ∧ Below w.heap.size w wr
set_option maxHeartbeats 4000000 in
theorem c_zeroValues {B : Nat} {a0 : Option Addr} {l0 p0 : Nat} {ns : List ND} (kind : Int) (w : World) (hBw : B ≤ w.heap.size) (h : NodesAt B w a0 l0 p0 ns) (h60 : l0 ≤ 60) :
  Calls Tryz.prog 63 #[.slice a0 l0 p0, .int .i64 kind] w (ZeroP kind ns w) := by
 have HN := hid h
 have hnl : ns.length = l0 := h.1
 obtain ⟨P, hP⟩ : ∃ P, plcs kind ns ns.length = P := ⟨_, rfl⟩
 have HPP := hid hP
 have hp60 : P.length ≤ 60 := by have := plcs_len kind ns ns.length; rw [hP] at this; omega
 have HPL := hid (show ∀ k, k < P.length → 0 ≤ P.getD k 0 ∧ P.getD k 0 < l0 from fun k hk => by subst hP; have := plcs_at hk; omega)
 clear h hP hnl
 obtain ⟨i1, hi1, hz01, hz11, hz21⟩ := info_parts intInfo
 obtain ⟨i2, hi2, hz02, hz12, hz22⟩ := info_parts valueInfo
 have HI1 := hid hi1
 have HI2 := hid hi2
 have HZ01 := hid hz01
 have HZ02 := hid hz02
 have HZ11 := hid hz11
 have HZ12 := hid hz12
 have HZ21 := hid hz21
 have HZ22 := hid hz22
 clear hi1 hi2 hz01 hz02 hz11 hz12 hz21 hz22
 go_enter Tryz.func63, Tryz.ntmps63
 go_wp2_with fail
 refine (c_kindPlaces (B := B) kind w hBw HN.out h60).mono ?_
 rintro e w1 ⟨v, rfl, ho, hq⟩
 rw [HPP.out] at ho
 obtain ⟨pa, pcap, rfl, hform⟩ := own_form ho
 have HP := hid (own_ints ho rfl)
 have HQ1 := hid hq
 have HN1 := hid (HN.out.rows.below (hq.mono hBw)).nodes
 have hB1 : B ≤ w1.heap.size := Nat.le_trans hBw hq.size
 clear ho hform hq HN
 go_wp2_with fail
 go_loopw [5, 12] (fun s i wr => ZeroR P ns w1 s i wr) (fun _ i _ => P.length - (intOf i).toNat)
 case atStart => exact ⟨0, [], by omega, rfl, ValRow.nil _ _, rfl, Below.refl _ _⟩
 case round =>
  obtain ⟨t, xs, ht, rfl, hv, hxs, hBr⟩ := hrel
  have HV := hid hv
  have HXS := hid hxs
  have HBr := hid hBr
  have hxl : xs.length = t := by have := congrArg List.length hxs; rw [zer_len] at this; simpa using this
  have HXL := hid hxl
  have hsz := hBr.size
  clear hv hxs hBr hxl
  by_cases htl : t < P.length
  ·have hti : (t : Int) < P.length := by omega
   obtain ⟨p, b1, o1, hp, -, rfl, hbB1, e0⟩ := int_at (HP.out.below HBr.out) htl
   have hpr := HPL.out t htl
   rw [hp] at hpr
   obtain ⟨q, rfl⟩ : ∃ q : Nat, p = q := ⟨p.toNat, by omega⟩
   have hql : (q : Int) < l0 := hpr.2
   obtain ⟨nd, b, off, hnd, rfl, hbB, hc⟩ := kind_at ((HN1.out.rows.below (HBr.out.mono hB1)).nodes) (show q < l0 by omega)
   obtain ⟨-, -, -, -, -, -, d6, d7, -⟩ := node_cells hc
   have HND := hid (show (ns.getD (P.getD t 0).toNat default) = nd by rw [hp]; simpa using hnd)
   obtain ⟨k0, pa', pb, pc, n, m, si, sw, nm⟩ := nd
   simp only at d6 d7
   have hcb := cellsN_bound si sw
   obtain ⟨cn, hcn⟩ : ∃ cn : Nat, cellsN si sw = cn := ⟨(cellsN si sw).toNat, by omega⟩
   have HCN := hid hcn
   have hcn8 : cn ≤ 4 := by omega
   clear hc hnd hp hpr hcb
   go_wp2_with fail
   refine (c_SortCellsI si sw wr).mono ?_
   rintro e w2 ⟨he, hq⟩
   rw [HCN.out] at he
   subst he
   have hs2 := hq.size
   obtain ⟨w3, hrun, hown, hgrow⟩ := run_make_full (P := Tryz.prog) w2 w1.heap.size 24 3 i1 _ 1 Tryz.underlying24 HI1.out HZ01.out HZ11.out .i64 .i64 cn (by rw [HZ21.out]; omega) (by unfold maxLen; omega) (by omega)
   have HQ3 := hid ((Below.refl w2.heap.size w2).grown hgrow (Nat.le_refl _) (by simp))
   have HOW := hid (own_made hown)
   have HV3 := hid ((HV.out.below hq).below HQ3.out)
   have hs3 := HQ3.out.size
   have HB3 := hid ((HBr.out.trans (hq.mono HBr.out.size)).trans (HQ3.out.mono (Nat.le_trans hsz hs2)))
   have HFR := hid (show ∀ g, Value.ownBlock (.slice (some ⟨w2.heap.size, 0, none⟩) cn cn) = some g → ¬ ValBlk _ xs g from fun g hg => HV.out.fresh (by simp [Value.ownBlock] at hg; omega))
   clear hown hgrow hq e0 d6 d7 hcn
   go_wp2_with (first | (at_builtin; refine wpList_append_own_at _ rfl _ _ 30 rfl w1.heap.size 69 i2 _ 1 24 Tryz.underlying30 HI2.out HZ02.out HZ12.out HZ22.out rfl (by decide) _ _ _ rfl (HV3.out.row.alloc _) ⟨w3.heap.size, 0, none⟩ 1 1 [.slice (some ⟨w2.heap.size, 0, none⟩) cn cn] rfl rfl (cell_one_new _ _ _) (by simp [Value.oneCell']) (by unfold maxLen; have := HXL.out; omega) (by have := HXL.out; omega) (by simp; omega) ?_; intro v' w4 hown' hgrow' hnil hloc) | go_in)
   have HA := hid (HV3.out.push HOW.out HFR.out hown' hgrow' hloc)
   have HB4 := hid ((HB3.out.alloc (by omega) _).grown hgrow' (by simp; omega) (fun j hj => (HV3.out.row.lt j hj).1))
   have HZR := hid (show zer P ns (t + 1) = zer P ns t ++ [List.replicate cn 0] from by simp only [zer]; rw [HND.out]; simp only; rw [HCN.out]; rfl)
   clear hown' hgrow' hnil hloc hrun
   go_roundw
   case rel => exact ⟨t + 1, _, by omega, by go_num, HA.out, by rw [List.map_append, HXS.out, HZR.out]; rfl, HB4.out⟩
   case measure => simp [intOf] <;> omega
  ·have hti : ¬ (t : Int) < P.length := by omega
   obtain rfl : t = P.length := by omega
   have HE := hid (HQ1.out.trans (HBr.out.mono HQ1.out.size))
   go_wp2_with fail
   go_ret
   exact ⟨_, _, rfl, HV.out.mono HQ1.out.size, by rw [HPP.out]; exact HXS.out, HE.out⟩
end Go.Proofs.YtlcgimadbpagfaaGreat
namespace Go.Proofs.YtlcgimadbpagfaaGreat
open Go.Lib
open Go.ChangeShapes Go.WideShapes Go.ChangeAt Go.RowKit Go.Maps
set_option linter.unusedVariables false
set_option maxRecDepth 100000
end Go.Proofs.YtlcgimadbpagfaaGreat
namespace Go.Proofs.YtlcgimadbpagfaaGreat
open Go.Lib
open Go.ChangeShapes Go.WideShapes Go.ChangeAt Go.RowKit Go.Maps
set_option linter.unusedVariables false
set_option maxRecDepth 100000
end Go.Proofs.YtlcgimadbpagfaaGreat
