/-
  Parts: ValF, ValG.
-/
import Derived.Test.YtapecdkdkoobgaaGreatRows
import Derived.Test.YtapecdkdkoobgaaGreatPaA
import Derived.Test.YtapecdkdkoobgaaGreatNodeM
import Derived.Test.YtapecdkdkoobgaaGreatNames
import Derived.Test.YtapecdkdkoobgaaGreatNodeL
import Derived.Test.YtapecdkdkoobgaaGreatPaG
import Derived.Test.YtapecdkdkoobgaaGreatResP
import Derived.Test.YtapecdkdkoobgaaGreatNSortI
import Derived.Test.YtapecdkdkoobgaaGreatModD
import Derived.Test.YtapecdkdkoobgaaGreatModA
import Derived.Test.YtapecdkdkoobgaaGreatModB
import Derived.Test.YtapecdkdkoobgaaGreatModE
import Derived.Test.YtapecdkdkoobgaaGreatModF
import Derived.Test.YtapecdkdkoobgaaGreatPaF
import Derived.Test.YtapecdkdkoobgaaGreatModQ
import Derived.Test.YtapecdkdkoobgaaGreatModU
import Derived.Test.YtapecdkdkoobgaaGreatModV
import Derived.Test.YtapecdkdkoobgaaGreatModW
import Derived.Test.YtapecdkdkoobgaaGreatLawMC
import Derived.Test.YtapecdkdkoobgaaGreatPaH
import Derived.WalkKit
import Derived.ProofKit
import Derived.OpenShut
import Derived.WalkSpells
import Derived.WalkLawsBesides
import Derived.Outline
import Derived.BigQuiet
import Derived.Handy
import Derived.LoopTactic
import Derived.Deep.Light
import Derived.Deep.RegionWith
import Derived.Deep.RegionHeld3
import Derived.Deep.DeepCutAuto
import Derived.Lib.Hide
import Derived.Maps.OwnRows
import Derived.Deep.Onto
/-! Whether values fit: valueOk, valuesFit of the program, l4Fits of the model. -/
namespace Go.Proofs.YtapecdkdkoobgaaGreat
open Go.ChangeShapes Go.WideShapes Go.ChangeAt Go.RowKit Go.Maps
set_option linter.unusedVariables false
set_option maxRecDepth 100000


/-- A value is of a sort. -/
def valOk (si sw : Int) (zs : List Int) : Prop := (zs.length : Int) = cellsN si sw ∧ ∀ j, j < zs.length → WOk sw (zs.getD j 0)
/-- Values are of the sorts of the nodes at some places. -/
def FitsP (P : List Int) (ns : List ND) (zss : List (List Int)) : Prop := zss.length = P.length ∧ ∀ k, k < zss.length → valOk (ns.getD (P.getD k 0).toNat default).si (ns.getD (P.getD k 0).toNat default).sw (zss.getD k [])
def FitsN (kind : Int) (ns : List ND) (zss : List (List Int)) : Prop := FitsP (plcs kind ns ns.length) ns zss
theorem plcs_mem {kind : Int} {ns : List ND} {k : Nat} {p : Int} (h : p ∈ plcs kind ns k) : 0 ≤ p ∧ p < k ∧ (ns.getD p.toNat default).kind = kind := by
  induction k with
  | zero => simp [plcs] at h
  | succ k ih =>
    unfold plcs at h
    split at h
    · rename_i hk
      simp only [List.mem_append, List.mem_singleton] at h
      rcases h with h | rfl
      · have := ih h; exact ⟨this.1, by omega, this.2.2⟩
      · exact ⟨by omega, by omega, by simpa using hk⟩
    · have := ih h; exact ⟨this.1, by omega, this.2.2⟩
theorem plcs_at {kind : Int} {ns : List ND} {n k : Nat} (h : k < (plcs kind ns n).length) : 0 ≤ (plcs kind ns n).getD k 0 ∧ (plcs kind ns n).getD k 0 < n := by
  have hm : (plcs kind ns n).getD k 0 ∈ plcs kind ns n := by simp only [List.getD, List.getElem?_eq_getElem h, Option.getD_some]; exact List.getElem_mem ..
  exact ⟨(plcs_mem hm).1, (plcs_mem hm).2.1⟩

set_option maxHeartbeats 4000000 in
theorem c_valueOk {B : Nat} {a : Option Addr} {len cap : Nat} {zs : List Int} (si sw : Int) (w : World) (hB : B ≤ w.heap.size) (h : IntsAt B w a len cap zs) :
    Calls Tryz.prog 92 #[.agg #[.int .i64 si, .int .i64 sw], .agg #[.slice a len cap]] w fun e w' => BoolIs (valOk si sw zs) e ∧ Below w.heap.size w w' := by
  have HN := Go.Lib.hid h
  have hlen : zs.length = len := h.1
  have hm : len ≤ maxLen := Nat.le_trans h.2.1 h.2.2.1
  unfold maxLen at hm
  clear h
  go_enter Tryz.func92, Tryz.ntmps92
  go_upto_region 1 with fail
  refine code_gen (R := fun wb => wb.cell? ⟨w.heap.size, 0, none⟩ = some (.int .i64 si) ∧ wb.cell? ⟨w.heap.size, 1, none⟩ = some (.int .i64 sw) ∧ wb.cell? ⟨w.heap.size + 1, 0, none⟩ = some (.slice a len cap) ∧ w.heap.size + 1 < wb.heap.size ∧ Below w.heap.size w wb) ⟨by simp, by simp, by simp, by simp, by go_grown⟩ ?_
  rintro w0 ⟨x0, x1, y0, hl1, hB0⟩
  have hl0 : w.heap.size < w0.heap.size := by omega
  have HB := Go.Lib.hid hB0
  have HN0 := Go.Lib.hid (HN.out.below (hB0.mono hB))
  have hBB : B ≤ w0.heap.size := Nat.le_trans hB hB0.size
  clear hB0 HN
  refine wp_region_held_drew (S := (fun w' => w'.cell? ⟨w.heap.size, 0, none⟩ = some (.int .i64 si) ∧ w'.cell? ⟨w.heap.size, 1, none⟩ = some (.int .i64 sw) ∧ w'.cell? ⟨w.heap.size + 1, 0, none⟩ = some (.slice a len cap))) (by kernel_rfl) ?_ (fun hHeld => ?_)
  · exact ⟨keepc (by go_grown) hl0 x0, keepc (by go_grown) hl0 x1, keepc (by go_grown) hl1 y0⟩
  refine tL 0 (some 7) ?_
  refine tL 1 (some 8) ?_
  refine tL 2 (some 9) ?_
  refine tL 3 (some 10) ?_
  refine wpAnyH_ready (rs := [4]) (by kernel_rfl) (by simp) ?_
  refine AllReadyH.cons (o := _) rfl (fun K hK => ?_) AllReadyH.nil
  go_simp
  refine (c_SortCellsI _ _ _).mono ?_; rintro e w1 ⟨rfl, hq⟩; have hb1 : Below w0.heap.size w0 w1 := bstep (by go_grown) (Nat.le_refl _) hq; clear hq
  (try go_wp2_with fail)
  (try clear hHeld)
  refine hK.out _ _ ?_ (fun hHeld => ?_)
  · exact ⟨keepc (by go_grown) hl0 x0, keepc (by go_grown) hl0 x1, keepc (by go_grown) hl1 y0⟩
  clear hK K
  (try simp only [Act.put, List.setIfInBounds_toArray, List.set_cons_zero, List.set_cons_succ])
  refine tL 5 (some 12) ?_
  refine wpAnyH_done (by kernel_rfl) ?_ _
  clear hHeld
  by_cases hc : (len : Int) = cellsN si sw
  · have hcb : ((len : Int) != cellsN si sw) = false := by simp [hc]
    go_upto_region 3 with fail
    (try rw [hcb])
    clear hcb
    refine code_gen (R := fun wb => Below w0.heap.size w0 wb) (by go_grown) ?_
    intro w2 hb2
    have x2 := keepc hb2 hl0 x1
    have y2 := keepc hb2 hl1 y0
    have hl2 := Nat.lt_of_lt_of_le hl0 hb2.size
    have HN2 := Go.Lib.hid (HN0.out.below (hb2.mono hBB))
    have hB2 : B ≤ w2.heap.size := Nat.le_trans hBB hb2.size
    have HB2 := Go.Lib.hid (HB.out.trans (hb2.mono HB.out.size))
    have HC := Go.Lib.hid hc
    clear hb2 hb1 x0 x1 y0 HN0 HB hc
    go_wp2_with fail
    go_loopw [16] (fun i wr => ∃ t : Nat, t ≤ len ∧ i = .int .i64 t ∧ (∀ j, j < t → WOk sw (zs.getD j 0)) ∧ Below w2.heap.size w2 wr) (fun i _ => len - (intOf i).toNat)
    case atStart => exact ⟨0, by omega, rfl, fun j h => by omega, Below.refl _ _⟩
    case round =>
      obtain ⟨t, ht, rfl, hall, hBk⟩ := hrel
      have HA := Go.Lib.hid hall
      have x3 := keepc hBk hl2 x2
      have HBk := Go.Lib.hid hBk
      clear hall hBk
      by_cases htl : t < len
      · have hti : (t : Int) < len := by omega
        obtain ⟨z, b, off, hz, -, rfl, hbB, c0⟩ := int_at (HN2.out.below (HBk.out.mono hB2)) htl
        by_cases hw : WOk sw z
        · have hd : decide (WOk sw z) = true := decide_eq_true hw
          have HY := Go.Lib.hid (show ∀ j, j < t + 1 → WOk sw (zs.getD j 0) from fun j hj => by
            rcases Nat.lt_or_ge j t with h | h
            · exact HA.out j h
            · obtain rfl : j = t := by omega
              rw [hz]; exact hw)
          clear hz hw
          go_wp2_with (first | (go_at_call 120; refine (c_WordOkI _ _ _).mono ?_; rw [hd]; rintro e w' ⟨rfl, rfl⟩))
          go_roundw
          case rel => exact ⟨t + 1, by omega, by go_num, HY.out, HBk.out⟩
          case measure => simp [intOf] <;> omega
        · have hd : decide (WOk sw z) = false := decide_eq_false hw
          have HY := Go.Lib.hid (show ¬ valOk si sw zs from fun h => hw (by rw [← hz]; exact h.2 t (by omega)))
          clear hz hw
          go_wp2_with (first | (go_at_call 120; refine (c_WordOkI _ _ _).mono ?_; rw [hd]; rintro e w' ⟨rfl, rfl⟩))
          go_ret
          exact ⟨BoolIs.no HY.out, HB2.out.trans (HBk.out.mono HB2.out.size)⟩
      · have hti : ¬ (t : Int) < len := by omega
        obtain rfl : t = len := by omega
        go_wp2_with fail
        go_ret
        exact ⟨BoolIs.yes ⟨by rw [hlen]; exact HC.out, fun j hj => HA.out j (by omega)⟩, HB2.out.trans (HBk.out.mono HB2.out.size)⟩
  · have HC := Go.Lib.hid (show ¬ valOk si sw zs from fun h => hc (by rw [← hlen]; exact h.1))
    go_wp2_with fail
    go_ret
    exact ⟨BoolIs.no HC.out, HB.out.trans (Below.mono (show Below w0.heap.size w0 _ by go_grown) HB.out.size)⟩

set_option maxHeartbeats 4000000 in
theorem c_valuesFit {B : Nat} {a0 : Option Addr} {l0 p0 : Nat} {ns : List ND} {a : Option Addr} {len cap : Nat} {zss : List (List Int)} (kind : Int) (w : World) (hBw : B ≤ w.heap.size) (h : NodesAt B w a0 l0 p0 ns) (h60 : l0 ≤ 60) (hv : ValsAt B w a len cap zss) :
    Calls Tryz.prog 53 #[.slice a0 l0 p0, .int .i64 kind, .slice a len cap] w fun e w' => BoolIs (FitsN kind ns zss) e ∧ Below w.heap.size w w' := by
  have HN := Go.Lib.hid h
  have HV := Go.Lib.hid hv
  have hnl : ns.length = l0 := h.1
  have hlen : zss.length = len := hv.length
  have hm := hv.le
  unfold maxLen at hm
  clear h hv
  unfold FitsN
  obtain ⟨P, hP⟩ : ∃ P, plcs kind ns ns.length = P := ⟨_, rfl⟩
  have HPP := Go.Lib.hid hP
  rw [hP]
  clear hP
  go_enter Tryz.func53, Tryz.ntmps53
  go_wp2_with fail
  refine (c_kindPlaces (B := B) kind w hBw HN.out h60).mono ?_
  rintro e w1 ⟨v, rfl, ho, hq⟩
  rw [HPP.out] at ho
  obtain ⟨pa, pcap, rfl, -⟩ := own_form ho
  have HP := Go.Lib.hid (own_ints ho rfl)
  have HPL := Go.Lib.hid (show ∀ k, k < P.length → 0 ≤ P.getD k 0 ∧ P.getD k 0 < l0 from fun k hk => by have h := HPP.out; subst h; have := plcs_at hk; omega)
  have hp60 : P.length ≤ 60 := by have := plcs_len kind ns ns.length; rw [HPP.out] at this; omega
  have HQ := Go.Lib.hid hq
  have hB1 : B ≤ w1.heap.size := Nat.le_trans hBw hq.size
  have HN1 := Go.Lib.hid (HN.out.rows.below (hq.mono hBw)).nodes
  have HV1 := Go.Lib.hid (HV.out.below (hq.mono hBw))
  clear ho hq HN HV HPP
  by_cases hl : len = P.length
  · have hli : (len : Int) = P.length := by omega
    go_wp2_with fail
    go_loopw [20] (fun i wr => ∃ t : Nat, t ≤ P.length ∧ i = .int .i64 t ∧ (∀ k, k < t → valOk (ns.getD (P.getD k 0).toNat default).si (ns.getD (P.getD k 0).toNat default).sw (zss.getD k [])) ∧ Below w1.heap.size w1 wr) (fun i _ => P.length - (intOf i).toNat)
    case atStart => exact ⟨0, by omega, rfl, fun j h => by omega, Below.refl _ _⟩
    case round =>
      obtain ⟨t, ht, rfl, hall, hBk⟩ := hrel
      have HA := Go.Lib.hid hall
      have HBk := Go.Lib.hid hBk
      clear hall hBk
      by_cases htl : t < P.length
      · have hti : (t : Int) < P.length := by omega
        have hti2 : (t : Int) < len := by omega
        have hBr : B ≤ wr.heap.size := Nat.le_trans hB1 HBk.out.size
        obtain ⟨p, b1, o1, hp, -, rfl, hbB1, e0⟩ := int_at (HP.out.below HBk.out) htl
        have hpr := HPL.out t htl
        rw [hp] at hpr
        obtain ⟨q, rfl⟩ : ∃ q : Nat, p = q := ⟨p.toNat, by omega⟩
        have hql : (q : Int) < l0 := hpr.2
        obtain ⟨nd, b, off, hnd, rfl, hbB, hc⟩ := kind_at ((HN1.out.rows.below (HBk.out.mono hB1)).nodes) (show q < l0 by omega)
        obtain ⟨-, -, -, -, -, -, d6, d7, -⟩ := node_cells hc
        obtain ⟨a', l', c', b2, o2, rfl, hbB2, f0, hz⟩ := val_at (HV1.out.below (HBk.out.mono hB1)) (show t < len by omega)
        have HZ := Go.Lib.hid hz
        have hbr : b < wr.heap.size := Nat.lt_of_lt_of_le hbB hBr
        have hbr2 : b2 < wr.heap.size := Nat.lt_of_lt_of_le hbB2 hBr
        have HND := Go.Lib.hid (show (ns.getD (P.getD t 0).toNat default) = nd by rw [hp]; simpa using hnd)
        obtain ⟨k0, pa', pb, pc, n, m, si, sw, nm⟩ := nd
        simp only at d6 d7
        clear hc hz hnd hp hpr
        by_cases hv : valOk si sw (zss.getD t [])
        · have HY := Go.Lib.hid (show ∀ k, k < t + 1 → valOk (ns.getD (P.getD k 0).toNat default).si (ns.getD (P.getD k 0).toNat default).sw (zss.getD k []) from fun k hk => by
            rcases Nat.lt_or_ge k t with h | h
            · exact HA.out k h
            · obtain rfl : k = t := by omega
              rw [HND.out]; exact hv)
          have HVV := Go.Lib.hid hv
          clear hv
          go_upto_region 7 with fail
          clear e0
          refine wp_region_held_drew (S := (fun w' => w'.cell? ⟨b, off + q * 9 + 6, none⟩ = some (.int .i64 si) ∧ w'.cell? ⟨b, off + q * 9 + 7, none⟩ = some (.int .i64 sw) ∧ w'.cell? ⟨b2, o2 + t, none⟩ = some (.slice a' l' c'))) (by kernel_rfl) ?_ (fun hHeld => ?_)
          · exact ⟨keepc (by go_grown) hbr d6, keepc (by go_grown) hbr d7, keepc (by go_grown) hbr2 f0⟩
          refine tL 0 (some 25) ?_
          refine tL 1 (some 26) ?_
          refine tL 2 (some 27) ?_
          refine tL 3 (some 28) ?_
          refine tL 4 (some 29) ?_
          refine tL 5 (some 30) ?_
          refine tL 6 (some 31) ?_
          refine tL 7 (some 32) ?_
          refine tL 8 (some 33) ?_
          refine wpAnyH_ready (rs := [9]) (by kernel_rfl) (by simp) ?_
          refine AllReadyH.cons (o := _) rfl (fun K hK => ?_) AllReadyH.nil
          go_simp
          refine (c_valueOk (B := B) si sw _ (Nat.le_trans hBr (by go_size)) (HZ.out.below (Below.mono (show Below wr.heap.size wr _ by go_grown) hBr))).mono ?_; rintro e w2 ⟨he, hq⟩; obtain rfl := boolIs_t HVV.out he; have hb2 : Below wr.heap.size wr w2 := bstep (by go_grown) (Nat.le_refl _) hq; clear hq he
          (try go_wp2_with fail)
          (try clear hHeld)
          refine hK.out _ _ ?_ (fun hHeld => ?_)
          · exact ⟨keepc (by go_grown) hbr d6, keepc (by go_grown) hbr d7, keepc (by go_grown) hbr2 f0⟩
          clear hK K
          (try simp only [Act.put, List.setIfInBounds_toArray, List.set_cons_zero, List.set_cons_succ])
          refine tL 10 (some 35) ?_
          refine wpAnyH_done (by kernel_rfl) ?_ _
          clear hHeld
          go_wp2_with fail
          go_roundw
          case rel => exact ⟨t + 1, by omega, by go_num, HY.out, HBk.out.trans (Below.mono (show Below wr.heap.size wr _ by go_grown) HBk.out.size)⟩
          case measure => simp [intOf] <;> omega
        · have HY := Go.Lib.hid (show ¬ FitsP P ns zss from fun h => hv (by have := h.2 t (by omega); rw [HND.out] at this; exact this))
          have HVV := Go.Lib.hid hv
          clear hv
          go_upto_region 7 with fail
          clear e0
          refine wp_region_held_drew (S := (fun w' => w'.cell? ⟨b, off + q * 9 + 6, none⟩ = some (.int .i64 si) ∧ w'.cell? ⟨b, off + q * 9 + 7, none⟩ = some (.int .i64 sw) ∧ w'.cell? ⟨b2, o2 + t, none⟩ = some (.slice a' l' c'))) (by kernel_rfl) ?_ (fun hHeld => ?_)
          · exact ⟨keepc (by go_grown) hbr d6, keepc (by go_grown) hbr d7, keepc (by go_grown) hbr2 f0⟩
          refine tL 0 (some 25) ?_
          refine tL 1 (some 26) ?_
          refine tL 2 (some 27) ?_
          refine tL 3 (some 28) ?_
          refine tL 4 (some 29) ?_
          refine tL 5 (some 30) ?_
          refine tL 6 (some 31) ?_
          refine tL 7 (some 32) ?_
          refine tL 8 (some 33) ?_
          refine wpAnyH_ready (rs := [9]) (by kernel_rfl) (by simp) ?_
          refine AllReadyH.cons (o := _) rfl (fun K hK => ?_) AllReadyH.nil
          go_simp
          refine (c_valueOk (B := B) si sw _ (Nat.le_trans hBr (by go_size)) (HZ.out.below (Below.mono (show Below wr.heap.size wr _ by go_grown) hBr))).mono ?_; rintro e w2 ⟨he, hq⟩; obtain rfl := boolIs_f HVV.out he; have hb2 : Below wr.heap.size wr w2 := bstep (by go_grown) (Nat.le_refl _) hq; clear hq he
          (try go_wp2_with fail)
          (try clear hHeld)
          refine hK.out _ _ ?_ (fun hHeld => ?_)
          · exact ⟨keepc (by go_grown) hbr d6, keepc (by go_grown) hbr d7, keepc (by go_grown) hbr2 f0⟩
          clear hK K
          (try simp only [Act.put, List.setIfInBounds_toArray, List.set_cons_zero, List.set_cons_succ])
          refine tL 10 (some 35) ?_
          refine wpAnyH_done (by kernel_rfl) ?_ _
          clear hHeld
          go_wp2_with fail
          go_ret
          exact ⟨BoolIs.no HY.out, HQ.out.trans (Below.mono (HBk.out.trans (Below.mono (show Below wr.heap.size wr _ by go_grown) HBk.out.size)) HQ.out.size)⟩
      · have hti : ¬ (t : Int) < P.length := by omega
        obtain rfl : t = P.length := by omega
        go_wp2_with fail
        go_ret
        exact ⟨BoolIs.yes ⟨by omega, fun k hk => HA.out k (by omega)⟩, HQ.out.trans (HBk.out.mono HQ.out.size)⟩
  · have hli : ¬ (len : Int) = P.length := by omega
    have HC := Go.Lib.hid (show ¬ FitsP P ns zss from fun h => hl (by rw [← hlen]; exact h.1))
    go_wp2_with fail
    go_ret
    exact ⟨BoolIs.no HC.out, HQ.out⟩

set_option maxHeartbeats 8000000 in
theorem c_l4Fits {B : Nat} {s0 s1 s2 s3 s4 : SL} {M : MD} {pa : Option Addr} {pl pcap : Nat} {P : List Int} {a : Option Addr} {len cap : Nat} {zss : List (List Int)} (w : World) (hBw : B ≤ w.heap.size) (h : ModelAt B w s0 s1 s2 s3 s4 M) (hp : IntsAt B w pa pl pcap P) (hpl : ∀ k, k < P.length → 0 ≤ P.getD k 0 ∧ P.getD k 0 < s0.len) (hv : ValsAt B w a len cap zss) :
    Calls Tryz.prog 72 #[.agg (mcells s0 s1 s2 s3 s4).toArray, .slice pa pl pcap, .slice a len cap] w fun e w' => BoolIs (FitsP P M.ns zss) e ∧ Below w.heap.size w w' := by
  have HN := Go.Lib.hid h.ns
  have HV := Go.Lib.hid hv
  have HP := Go.Lib.hid hp
  have HPL := Go.Lib.hid hpl
  have hlen : zss.length = len := hv.length
  have hpl' : P.length = pl := hp.1
  have hm := hv.le
  have hmp := Nat.le_trans hp.2.1 hp.2.2.1
  have hm0 := Nat.le_trans h.ns.2.1 h.ns.2.2.1
  unfold maxLen at hm hmp hm0
  clear h hv hp hpl
  obtain ⟨a0, l0, p0⟩ := s0
  simp only [mcells] at *
  go_enter Tryz.func72, Tryz.ntmps72
  by_cases hl : len = pl
  · have hli : (len : Int) = pl := by omega
    go_wp2_with fail
    go_loopw [7] (fun i wr => ∃ t : Nat, t ≤ len ∧ i = .int .i64 t ∧ (∀ k, k < t → valOk (M.ns.getD (P.getD k 0).toNat default).si (M.ns.getD (P.getD k 0).toNat default).sw (zss.getD k [])) ∧ Boxed ⟨a0, l0, p0⟩ s1 s2 s3 s4 w wr) (fun i _ => len - (intOf i).toNat)
    case atStart => exact ⟨0, by omega, rfl, fun j h => by omega, Boxed.new _ _ _ _ _ _ _⟩
    case round =>
      obtain ⟨t, ht, rfl, hall, hbx⟩ := hrel
      have HA := Go.Lib.hid hall
      have HX := Go.Lib.hid hbx
      obtain ⟨hlt, g0, -, -, -, -, hBk⟩ := hbx
      have HBk := Go.Lib.hid hBk
      clear hall hBk
      simp only at g0
      by_cases htl : t < len
      · have hti : (t : Int) < len := by omega
        have hti2 : (t : Int) < pl := by omega
        have hBr : B ≤ wr.heap.size := Nat.le_trans hBw HBk.out.size
        obtain ⟨p, b1, o1, hp, -, rfl, hbB1, e0⟩ := int_at (HP.out.below (HBk.out.mono hBw)) (show t < pl by omega)
        have hpr := HPL.out t (by omega)
        rw [hp] at hpr
        obtain ⟨q, rfl⟩ : ∃ q : Nat, p = q := ⟨p.toNat, by omega⟩
        have hql : (q : Int) < l0 := hpr.2
        obtain ⟨nd, b, off, hnd, rfl, hbB, hc⟩ := kind_at ((HN.out.rows.below (HBk.out.mono hBw)).nodes) (show q < l0 by omega)
        obtain ⟨-, -, -, -, -, -, d6, d7, -⟩ := node_cells hc
        obtain ⟨a', l', c', b2, o2, rfl, hbB2, f0, hz⟩ := val_at (HV.out.below (HBk.out.mono hBw)) (show t < len by omega)
        have hzl := hz.1
        have hzm := Nat.le_trans hz.2.1 hz.2.2.1
        unfold maxLen at hzm
        have HZ := Go.Lib.hid hz
        have hbr1 : b1 < wr.heap.size := Nat.lt_of_lt_of_le hbB1 hBr
        have hbr : b < wr.heap.size := Nat.lt_of_lt_of_le hbB hBr
        have hbr2 : b2 < wr.heap.size := Nat.lt_of_lt_of_le hbB2 hBr
        have HND := Go.Lib.hid (show (M.ns.getD (P.getD t 0).toNat default) = nd by rw [hp]; simpa using hnd)
        obtain ⟨k0, pa', pb, pc, n, m, si, sw, nm⟩ := nd
        simp only at d6 d7
        clear hc hz hnd hp hpr
        go_upto_region 6 with fail
        refine wp_region_held_drew (S := (fun w' => w'.cell? ⟨w.heap.size, 0, none⟩ = some (.slice (some ⟨b, off, none⟩) l0 p0) ∧ w'.cell? ⟨b1, o1 + t, none⟩ = some (.int .i64 q) ∧ w'.cell? ⟨b, off + q * 9 + 6, none⟩ = some (.int .i64 si) ∧ w'.cell? ⟨b, off + q * 9 + 7, none⟩ = some (.int .i64 sw))) (by kernel_rfl) ?_ (fun hHeld => ?_)
        · exact ⟨keepc (by go_grown) hlt g0, keepc (by go_grown) hbr1 e0, keepc (by go_grown) hbr d6, keepc (by go_grown) hbr d7⟩
        refine tL 0 (some 21) ?_
        refine tL 1 (some 22) ?_
        refine tL 2 (some 23) ?_
        refine tL 3 (some 24) ?_
        refine tL 4 (some 25) ?_
        refine tL 5 (some 26) ?_
        refine tL 6 (some 27) ?_
        refine tL 7 (some 28) ?_
        refine tL 8 (some 29) ?_
        refine wpAnyH_ready (rs := [9]) (by kernel_rfl) (by simp) ?_
        refine AllReadyH.cons (o := _) rfl (fun K hK => ?_) AllReadyH.nil
        go_simp
        (try clear hHeld)
        refine hK.out _ _ ?_ (fun hHeld => ?_)
        · exact ⟨keepc (by go_grown) hlt g0, keepc (by go_grown) hbr1 e0, keepc (by go_grown) hbr d6, keepc (by go_grown) hbr d7⟩
        clear hK K
        (try simp only [Act.put, List.setIfInBounds_toArray, List.set_cons_zero, List.set_cons_succ])
        refine wpAnyH_ready (rs := [10]) (by kernel_rfl) (by simp) ?_
        refine AllReadyH.cons (o := _) rfl (fun K hK => ?_) AllReadyH.nil
        go_simp
        (try clear hHeld)
        refine hK.out _ _ ?_ (fun hHeld => ?_)
        · exact ⟨keepc (by go_grown) hlt g0, keepc (by go_grown) hbr1 e0, keepc (by go_grown) hbr d6, keepc (by go_grown) hbr d7⟩
        clear hK K
        (try simp only [Act.put, List.setIfInBounds_toArray, List.set_cons_zero, List.set_cons_succ])
        refine wpAnyH_done (by kernel_rfl) ?_ _
        clear hHeld
        go_upto_region 7 with fail
        refine code_gen (R := fun wb => wb.cell? ⟨wr.heap.size, 0, none⟩ = some (.int .i64 si) ∧ wb.cell? ⟨wr.heap.size, 1, none⟩ = some (.int .i64 sw) ∧ wr.heap.size < wb.heap.size ∧ Below wr.heap.size wr wb) ⟨by simp, by simp, by simp, by go_grown⟩ ?_
        rintro w3 ⟨s6, s7, hgs, hb3⟩
        have f3 := keepc hb3 hbr2 f0
        have hb23 := Nat.lt_of_lt_of_le hbr2 hb3.size
        have HX3 := Go.Lib.hid (HX.out.below hb3)
        have HZ3 := Go.Lib.hid (HZ.out.below (hb3.mono hBr))
        have hB3 : B ≤ w3.heap.size := Nat.le_trans hBr hb3.size
        generalize hgg : wr.heap.size = gs at *
        clear hgg hb3 g0 e0 d6 d7 f0 HX HZ HBk hlt hbr hbr1 hbr2 hBr
        refine wp_region_held_drew (S := (fun w' => w'.cell? ⟨b2, o2 + t, none⟩ = some (.slice a' l' c') ∧ w'.cell? ⟨gs, 0, none⟩ = some (.int .i64 si) ∧ w'.cell? ⟨gs, 1, none⟩ = some (.int .i64 sw))) (by kernel_rfl) ?_ (fun hHeld => ?_)
        · exact ⟨keepc (by go_grown) hb23 f3, keepc (by go_grown) hgs s6, keepc (by go_grown) hgs s7⟩
        refine tL 0 (some 30) ?_
        refine tL 1 (some 31) ?_
        refine tL 2 (some 32) ?_
        refine tL 3 (some 33) ?_
        refine tL 4 (some 34) ?_
        refine tL 5 (some 35) ?_
        refine tL 6 (some 36) ?_
        refine wpAnyH_ready (rs := [7]) (by kernel_rfl) (by simp) ?_
        refine AllReadyH.cons (o := _) rfl (fun K hK => ?_) AllReadyH.nil
        go_simp
        refine (c_SortCellsS _ _ _).mono ?_; rintro e w4 ⟨rfl, hq⟩; have hb4 : Below w3.heap.size w3 w4 := bstep (by go_grown) (Nat.le_refl _) hq; clear hq
        (try go_wp2_with fail)
        (try clear hHeld)
        refine hK.out _ _ ?_ (fun hHeld => ?_)
        · exact ⟨keepc (by go_grown) hb23 f3, keepc (by go_grown) hgs s6, keepc (by go_grown) hgs s7⟩
        clear hK K
        (try simp only [Act.put, List.setIfInBounds_toArray, List.set_cons_zero, List.set_cons_succ])
        refine tL 8 (some 38) ?_
        refine wpAnyH_done (by kernel_rfl) ?_ _
        clear hHeld
        by_cases hc : (l' : Int) = cellsN si sw
        · have hcb : ((l' : Int) != cellsN si sw) = false := by simp [hc]
          go_upto_region 9 with fail
          (try rw [hcb])
          clear hcb
          refine code_gen (R := fun wb => Below w3.heap.size w3 wb) (by go_grown) ?_
          intro w5 hb5
          have f4 := keepc hb5 hb23 f3
          have s5 := keepc hb5 hgs s7
          have hb25 := Nat.lt_of_lt_of_le hb23 hb5.size
          have hgs5 := Nat.lt_of_lt_of_le hgs hb5.size
          have HX5 := Go.Lib.hid (HX3.out.below hb5)
          have HZ5 := Go.Lib.hid (HZ3.out.below (hb5.mono hB3))
          have hB5 : B ≤ w5.heap.size := Nat.le_trans hB3 hb5.size
          have HC := Go.Lib.hid hc
          clear hb5 hb4 f3 s6 s7 HX3 HZ3 hB3 hb23 hgs hc
          go_wp2_with fail
          go_loopw [9] (fun i wr => ∃ j : Nat, j ≤ l' ∧ i = .int .i64 j ∧ (∀ y, y < j → WOk sw ((zss.getD t []).getD y 0)) ∧ Below w5.heap.size w5 wr) (fun i _ => l' - (intOf i).toNat)
          case atStart => exact ⟨0, by omega, rfl, fun j h => by omega, Below.refl _ _⟩
          case round =>
            obtain ⟨j, hj, rfl, hall, hBj⟩ := hrel
            have HAJ := Go.Lib.hid hall
            have HBj := Go.Lib.hid hBj
            have f5 := keepc hBj hb25 f4
            have s8 := keepc hBj hgs5 s5
            have hb2r := Nat.lt_of_lt_of_le hb25 hBj.size
            have hgsr := Nat.lt_of_lt_of_le hgs5 hBj.size
            have hBrr := Nat.le_trans hB5 hBj.size
            clear hall hBj
            by_cases hjl : j < l'
            · have hji : (j : Int) < l' := by omega
              obtain ⟨z, b3, o3, hz, -, rfl, hbB3, z0⟩ := int_at (HZ5.out.below (HBj.out.mono hB5)) hjl
              have hb3r : b3 < wr.heap.size := Nat.lt_of_lt_of_le hbB3 hBrr
              by_cases hw : WOk sw z
              · have hd : decide (WOk sw z) = true := decide_eq_true hw
                have HY := Go.Lib.hid (show ∀ y, y < j + 1 → WOk sw ((zss.getD t []).getD y 0) from fun y hy => by
                  rcases Nat.lt_or_ge y j with h | h
                  · exact HAJ.out y h
                  · obtain rfl : y = j := by omega
                    rw [hz]; exact hw)
                clear hz hw
                go_upto_region 12 with fail
                refine wp_region_held_drew (S := (fun w' => w'.cell? ⟨b2, o2 + t, none⟩ = some (.slice (some ⟨b3, o3, none⟩) l' c') ∧ w'.cell? ⟨gs, 1, none⟩ = some (.int .i64 sw) ∧ w'.cell? ⟨b3, o3 + j, none⟩ = some (.int .i64 z))) (by kernel_rfl) ?_ (fun hHeld => ?_)
                · exact ⟨keepc (by go_grown) hb2r f5, keepc (by go_grown) hgsr s8, keepc (by go_grown) hb3r z0⟩
                refine tL 0 (some 49) ?_
                refine tL 1 (some 50) ?_
                refine tL 2 (some 51) ?_
                refine tL 3 (some 52) ?_
                refine tL 4 (some 53) ?_
                refine tL 5 (some 54) ?_
                refine tL 6 (some 55) ?_
                refine tL 7 (some 56) ?_
                refine tL 8 (some 57) ?_
                refine tL 9 (some 58) ?_
                refine wpAnyH_ready (rs := [10]) (by kernel_rfl) (by simp) ?_
                refine AllReadyH.cons (o := _) rfl (fun K hK => ?_) AllReadyH.nil
                go_simp
                refine (c_WordOkS _ _ _).mono ?_; rw [hd]; rintro e w6 ⟨rfl, rfl⟩
                (try go_wp2_with fail)
                (try clear hHeld)
                refine hK.out _ _ ?_ (fun hHeld => ?_)
                · exact ⟨keepc (by go_grown) hb2r f5, keepc (by go_grown) hgsr s8, keepc (by go_grown) hb3r z0⟩
                clear hK K
                (try simp only [Act.put, List.setIfInBounds_toArray, List.set_cons_zero, List.set_cons_succ])
                refine tL 11 (some 60) ?_
                refine wpAnyH_done (by kernel_rfl) ?_ _
                clear hHeld
                go_wp2_with fail
                go_roundw
                case rel => exact ⟨j + 1, by omega, by go_num, HY.out, HBj.out.trans (Below.mono (show Below wr.heap.size wr _ by go_grown) HBj.out.size)⟩
                case measure => simp [intOf] <;> omega
              · have hd : decide (WOk sw z) = false := decide_eq_false hw
                have HY := Go.Lib.hid (show ¬ FitsP P M.ns zss from fun h => hw (by have := (h.2 t (by omega)).2 j (by omega); rw [HND.out, hz] at this; exact this))
                clear hz hw
                go_upto_region 12 with fail
                refine wp_region_held_drew (S := (fun w' => w'.cell? ⟨b2, o2 + t, none⟩ = some (.slice (some ⟨b3, o3, none⟩) l' c') ∧ w'.cell? ⟨gs, 1, none⟩ = some (.int .i64 sw) ∧ w'.cell? ⟨b3, o3 + j, none⟩ = some (.int .i64 z))) (by kernel_rfl) ?_ (fun hHeld => ?_)
                · exact ⟨keepc (by go_grown) hb2r f5, keepc (by go_grown) hgsr s8, keepc (by go_grown) hb3r z0⟩
                refine tL 0 (some 49) ?_
                refine tL 1 (some 50) ?_
                refine tL 2 (some 51) ?_
                refine tL 3 (some 52) ?_
                refine tL 4 (some 53) ?_
                refine tL 5 (some 54) ?_
                refine tL 6 (some 55) ?_
                refine tL 7 (some 56) ?_
                refine tL 8 (some 57) ?_
                refine tL 9 (some 58) ?_
                refine wpAnyH_ready (rs := [10]) (by kernel_rfl) (by simp) ?_
                refine AllReadyH.cons (o := _) rfl (fun K hK => ?_) AllReadyH.nil
                go_simp
                refine (c_WordOkS _ _ _).mono ?_; rw [hd]; rintro e w6 ⟨rfl, rfl⟩
                (try go_wp2_with fail)
                (try clear hHeld)
                refine hK.out _ _ ?_ (fun hHeld => ?_)
                · exact ⟨keepc (by go_grown) hb2r f5, keepc (by go_grown) hgsr s8, keepc (by go_grown) hb3r z0⟩
                clear hK K
                (try simp only [Act.put, List.setIfInBounds_toArray, List.set_cons_zero, List.set_cons_succ])
                refine tL 11 (some 60) ?_
                refine wpAnyH_done (by kernel_rfl) ?_ _
                clear hHeld
                go_wp2_with fail
                go_ret
                exact ⟨BoolIs.no HY.out, HX5.out.2.2.2.2.2.2.trans (Below.mono (HBj.out.trans (Below.mono (show Below wr.heap.size wr _ by go_grown) HBj.out.size)) HX5.out.2.2.2.2.2.2.size)⟩
            · have hji : ¬ (j : Int) < l' := by omega
              obtain rfl : j = l' := by omega
              have HY := Go.Lib.hid (show ∀ k, k < t + 1 → valOk (M.ns.getD (P.getD k 0).toNat default).si (M.ns.getD (P.getD k 0).toNat default).sw (zss.getD k []) from fun k hk => by
                rcases Nat.lt_or_ge k t with h | h
                · exact HA.out k h
                · obtain rfl : k = t := by omega
                  rw [HND.out]; exact ⟨by rw [hzl]; exact HC.out, fun y hy => HAJ.out y (by omega)⟩)
              go_wp2_with fail
              go_roundw
              case rel => exact ⟨t + 1, by omega, by go_num, HY.out, HX5.out.below HBj.out⟩
              case measure => simp [intOf] <;> omega
        · have HC := Go.Lib.hid (show ¬ FitsP P M.ns zss from fun h => hc (by have := (h.2 t (by omega)).1; rw [HND.out] at this; rw [← hzl]; exact this))
          go_wp2_with fail
          go_ret
          exact ⟨BoolIs.no HC.out, HX3.out.2.2.2.2.2.2.trans (Below.mono (show Below w3.heap.size w3 _ by go_grown) HX3.out.2.2.2.2.2.2.size)⟩
      · have hti : ¬ (t : Int) < len := by omega
        obtain rfl : t = len := by omega
        go_wp2_with fail
        go_ret
        exact ⟨BoolIs.yes ⟨by omega, fun k hk => HA.out k (by omega)⟩, HBk.out⟩
  · have hli : ¬ (len : Int) = pl := by omega
    have HC := Go.Lib.hid (show ¬ FitsP P M.ns zss from fun h => hl (by have := h.1; omega))
    go_wp2_with fail
    go_ret
    exact ⟨BoolIs.no HC.out, by go_grown⟩
end Go.Proofs.YtapecdkdkoobgaaGreat

/-! StateFits and InputFits: both sides. -/
namespace Go.Proofs.YtapecdkdkoobgaaGreat
open Go.ChangeShapes Go.WideShapes Go.ChangeAt Go.RowKit Go.Maps
set_option linter.unusedVariables false
set_option maxRecDepth 100000


/-- Values are a state (36), an input (35) of a model. -/
def FitM (kind : Int) (M : MD) (zss : List (List Int)) : Prop := CodeIs M 0 ∧ FitsN kind M.ns zss
def FitQ (kind : Int) (M : MD) (zss : List (List Int)) (w : World) (e : Ending) (w' : World) : Prop := BoolIs (FitM kind M zss) e ∧ Below w.heap.size w w'

set_option maxHeartbeats 4000000 in
theorem c_StateFitsI {B : Nat} {s0 s1 s2 s3 s4 : SL} {M : MD} {a : Option Addr} {len cap : Nat} {zss : List (List Int)} (w : World) (hBw : B ≤ w.heap.size) (h : ModelAt B w s0 s1 s2 s3 s4 M) (hv : ValsAt B w a len cap zss) :
    Calls Tryz.prog 15 #[.agg (mcells s0 s1 s2 s3 s4).toArray, .slice a len cap] w (FitQ 36 M zss w) := by
  have HMA := Go.Lib.hid h
  have HV := Go.Lib.hid hv
  clear h hv
  simp only [mcells]
  go_enter Tryz.func15, Tryz.ntmps15
  go_upto_region 1 with fail
  refine code_gen (R := fun wb => Boxed s0 s1 s2 s3 s4 w wb) (Boxed.new _ _ _ _ _ _ _) ?_
  intro w0 hbox
  have HX0 := Go.Lib.hid hbox
  obtain ⟨hlt, x0, x1, x2, x3, x4, hBx⟩ := hbox
  have hBk := Nat.le_trans hBw hBx.size
  have HM0 := Go.Lib.hid (HMA.out.below (hBx.mono hBw))
  clear hBx
  go_wp2_with fail
  refine (c_ModelCodeI (B := B) (s0 := s0) (s1 := s1) (s2 := s2) (s3 := s3) (s4 := s4) w0 hBk HM0.out).mono ?_
  rintro e w1 ⟨c, rfl, hc, hq⟩
  have HX1 := Go.Lib.hid (HX0.out.below hq)
  clear hq x0 x1 x2 x3 x4 hlt HM0 hBk
  by_cases hz : c = 0
  · subst hz
    have HC := Go.Lib.hid hc
    have h60 : s0.len ≤ 60 := by have h1 := code0_len hc; rw [HMA.out.ns.1] at h1; exact h1
    clear hc
    obtain ⟨hlt, x0, x1, x2, x3, x4, hBx⟩ := HX1.out
    have hBk := Nat.le_trans hBw hBx.size
    have HM := Go.Lib.hid (HMA.out.below (hBx.mono hBw))
    have HV1 := Go.Lib.hid (HV.out.below (hBx.mono hBw))
    have HBX := Go.Lib.hid hBx
    clear hBx
    go_wp2_with fail
    refine (c_valuesFit (B := B) 36 w1 hBk HM.out.ns h60 HV1.out).mono ?_
    rintro e w2 ⟨⟨r, rfl, hr⟩, hq⟩
    have HR := Go.Lib.hid hr
    have HB2 := Go.Lib.hid (HBX.out.trans (hq.mono HBX.out.size))
    clear hr hq x0 x1 x2 x3 x4
    go_wp2_with fail
    go_ret
    exact ⟨⟨r, rfl, HR.out.trans ⟨fun h => ⟨HC.out, h⟩, fun h => h.2⟩⟩, HB2.out⟩
  · have HC := Go.Lib.hid (show ¬ CodeIs M 0 from fun h => hz (hc.inj h))
    clear hc
    go_wp2_with fail
    go_ret
    exact ⟨BoolIs.no (fun h => HC.out h.1), HX1.out.2.2.2.2.2.2⟩

set_option maxHeartbeats 4000000 in
theorem c_StateFitsS {B : Nat} {s0 s1 s2 s3 s4 : SL} {M : MD} {a : Option Addr} {len cap : Nat} {zss : List (List Int)} (w : World) (hBw : B ≤ w.heap.size) (h : ModelAt B w s0 s1 s2 s3 s4 M) (hv : ValsAt B w a len cap zss) :
    Calls Tryz.prog 30 #[.agg (mcells s0 s1 s2 s3 s4).toArray, .slice a len cap] w (FitQ 36 M zss w) := by
  have HMA := Go.Lib.hid h
  have HV := Go.Lib.hid hv
  clear h hv
  simp only [mcells]
  go_enter Tryz.func30, Tryz.ntmps30
  go_upto_region 1 with fail
  refine code_gen (R := fun wb => Boxed s0 s1 s2 s3 s4 w wb) (Boxed.new _ _ _ _ _ _ _) ?_
  intro w0 hbox
  obtain ⟨hlt, x0, x1, x2, x3, x4, hBx⟩ := hbox
  have hBk := Nat.le_trans hBw hBx.size
  have HM0 := Go.Lib.hid (HMA.out.below (hBx.mono hBw))
  have HV0 := Go.Lib.hid (HV.out.below (hBx.mono hBw))
  have HB0 := Go.Lib.hid hBx
  clear hBx
  by_cases hC : CodeIs M 0
  · have HC := Go.Lib.hid hC
    have h60 : s0.len ≤ 60 := by have h1 := code0_len hC; rw [HMA.out.ns.1] at h1; exact h1
    clear hC
    refine wp_region_held_drew (S := (fun w' => w'.cell? ⟨w.heap.size, 0, none⟩ = some (.slice s0.a s0.len s0.cap) ∧ w'.cell? ⟨w.heap.size, 1, none⟩ = some (.slice s1.a s1.len s1.cap) ∧ w'.cell? ⟨w.heap.size, 2, none⟩ = some (.slice s2.a s2.len s2.cap) ∧ w'.cell? ⟨w.heap.size, 3, none⟩ = some (.slice s3.a s3.len s3.cap) ∧ w'.cell? ⟨w.heap.size, 4, none⟩ = some (.slice s4.a s4.len s4.cap))) (by kernel_rfl) ?_ (fun hHeld => ?_)
    · exact ⟨keepc (by go_grown) hlt x0, keepc (by go_grown) hlt x1, keepc (by go_grown) hlt x2, keepc (by go_grown) hlt x3, keepc (by go_grown) hlt x4⟩
    refine tL 0 (some 5) ?_
    refine wpAnyH_ready (rs := [1]) (by kernel_rfl) (by simp) ?_
    refine AllReadyH.cons (o := _) rfl (fun K hK => ?_) AllReadyH.nil
    go_simp
    refine (c_ModelCodeS (B := B) (s0 := s0) (s1 := s1) (s2 := s2) (s3 := s3) (s4 := s4) _ (Nat.le_trans hBk (by go_size)) (HM0.out.below (Below.mono (show Below w0.heap.size w0 _ by go_grown) hBk))).mono ?_; rintro e w1 ⟨c, rfl, hc, hq⟩; have hb1 : Below w0.heap.size w0 w1 := bstep (by go_grown) (Nat.le_refl _) hq; clear hq; obtain rfl := hc.inj HC.out; clear hc
    (try go_wp2_with fail)
    (try clear hHeld)
    refine hK.out _ _ ?_ (fun hHeld => ?_)
    · exact ⟨keepc (by go_grown) hlt x0, keepc (by go_grown) hlt x1, keepc (by go_grown) hlt x2, keepc (by go_grown) hlt x3, keepc (by go_grown) hlt x4⟩
    clear hK K
    (try simp only [Act.put, List.setIfInBounds_toArray, List.set_cons_zero, List.set_cons_succ])
    refine tL 2 (some 7) ?_
    refine tL 3 (some 8) ?_
    refine tL 4 (some 9) ?_
    refine tL 5 (some 10) ?_
    refine tL 7 (some 12) ?_
    refine wpAnyH_ready (rs := [6]) (by kernel_rfl) (by simp) ?_
    refine AllReadyH.cons (o := _) rfl (fun K hK => ?_) AllReadyH.nil
    go_simp
    refine (c_l2Places (B := B) (s0 := s0) (s1 := s1) (s2 := s2) (s3 := s3) (s4 := s4) 36 _ (Nat.le_trans hBk (by first | exact hb1.size | go_size)) (HM0.out.below (Below.mono (show Below w0.heap.size w0 _ by go_grown) hBk)) h60).mono ?_; rintro e w2 ⟨v, rfl, ho, hq⟩; have hb2 : Below w0.heap.size w0 w2 := bstep (by go_grown) (Nat.le_refl _) hq; obtain ⟨pa, pcap, rfl, -⟩ := own_form ho; have HP := Go.Lib.hid (own_ints ho rfl); clear ho hq
    (try go_wp2_with fail)
    (try clear hHeld)
    refine hK.out _ _ ?_ (fun hHeld => ?_)
    · exact ⟨keepc (by go_grown) hlt x0, keepc (by go_grown) hlt x1, keepc (by go_grown) hlt x2, keepc (by go_grown) hlt x3, keepc (by go_grown) hlt x4⟩
    clear hK K
    (try simp only [Act.put, List.setIfInBounds_toArray, List.set_cons_zero, List.set_cons_succ])
    refine wpAnyH_ready (rs := [8]) (by kernel_rfl) (by simp) ?_
    refine AllReadyH.cons (o := _) rfl (fun K hK => ?_) AllReadyH.nil
    go_simp
    refine (c_l4Fits (B := w2.heap.size) (s0 := s0) (s1 := s1) (s2 := s2) (s3 := s3) (s4 := s4) w2 (Nat.le_refl _) ((HM0.out.below (hb2.mono hBk)).mono (Nat.le_trans hBk hb2.size)) HP.out (fun k hk => by have := plcs_at hk; rw [HMA.out.ns.1] at this; rw [HMA.out.ns.1]; exact this) ((HV0.out.below (hb2.mono hBk)).mono (Nat.le_trans hBk hb2.size))).mono ?_; rintro e w3 ⟨⟨r, rfl, hr⟩, hq⟩; have hb3 : Below w0.heap.size w0 w3 := bstep (by go_grown) (Nat.le_refl _) hq; have HR := Go.Lib.hid hr; clear hq hr
    (try go_wp2_with fail)
    (try clear hHeld)
    refine hK.out _ _ ?_ (fun hHeld => ?_)
    · exact ⟨keepc (by go_grown) hlt x0, keepc (by go_grown) hlt x1, keepc (by go_grown) hlt x2, keepc (by go_grown) hlt x3, keepc (by go_grown) hlt x4⟩
    clear hK K
    (try simp only [Act.put, List.setIfInBounds_toArray, List.set_cons_zero, List.set_cons_succ])
    refine tL 9 (some 14) ?_
    refine tL 10 (some 4) ?_
    refine wpAnyH_done (by kernel_rfl) ?_ _
    clear hHeld
    go_wp2_with fail
    go_ret
    exact ⟨⟨r, rfl, HR.out.trans ⟨fun h => ⟨HC.out, h⟩, fun h => h.2⟩⟩, HB0.out.trans (Below.mono (show Below w0.heap.size w0 _ by go_grown) HB0.out.size)⟩
  · have HC := Go.Lib.hid hC
    clear hC
    refine wp_region_held_drew (S := (fun w' => w'.cell? ⟨w.heap.size, 0, none⟩ = some (.slice s0.a s0.len s0.cap) ∧ w'.cell? ⟨w.heap.size, 1, none⟩ = some (.slice s1.a s1.len s1.cap) ∧ w'.cell? ⟨w.heap.size, 2, none⟩ = some (.slice s2.a s2.len s2.cap) ∧ w'.cell? ⟨w.heap.size, 3, none⟩ = some (.slice s3.a s3.len s3.cap) ∧ w'.cell? ⟨w.heap.size, 4, none⟩ = some (.slice s4.a s4.len s4.cap))) (by kernel_rfl) ?_ (fun hHeld => ?_)
    · exact ⟨keepc (by go_grown) hlt x0, keepc (by go_grown) hlt x1, keepc (by go_grown) hlt x2, keepc (by go_grown) hlt x3, keepc (by go_grown) hlt x4⟩
    refine tL 0 (some 5) ?_
    refine wpAnyH_ready (rs := [1]) (by kernel_rfl) (by simp) ?_
    refine AllReadyH.cons (o := _) rfl (fun K hK => ?_) AllReadyH.nil
    go_simp
    refine (c_ModelCodeS (B := B) (s0 := s0) (s1 := s1) (s2 := s2) (s3 := s3) (s4 := s4) _ (Nat.le_trans hBk (by go_size)) (HM0.out.below (Below.mono (show Below w0.heap.size w0 _ by go_grown) hBk))).mono ?_; rintro e w1 ⟨c, rfl, hc, hq⟩; have hb1 : Below w0.heap.size w0 w1 := bstep (by go_grown) (Nat.le_refl _) hq; clear hq; have hcz : ¬ c = 0 := fun h => HC.out (h ▸ hc); clear hc
    (try go_wp2_with fail)
    (try clear hHeld)
    refine hK.out _ _ ?_ (fun hHeld => ?_)
    · exact ⟨keepc (by go_grown) hlt x0, keepc (by go_grown) hlt x1, keepc (by go_grown) hlt x2, keepc (by go_grown) hlt x3, keepc (by go_grown) hlt x4⟩
    clear hK K
    (try simp only [Act.put, List.setIfInBounds_toArray, List.set_cons_zero, List.set_cons_succ])
    refine tL 2 (some 7) ?_
    (try (generalize hg : (c == 0) = bb; obtain rfl : bb = false := by rw [← hg]; simp [hcz]))
    refine tL 3 (some 8) ?_
    refine tU 4 (some 9) ?_
    refine tU 5 (some 10) ?_
    refine tU 6 (some 11) ?_
    refine tU 7 (some 12) ?_
    refine tU 8 (some 13) ?_
    refine tL 9 (some 14) ?_
    refine tL 10 (some 4) ?_
    refine wpAnyH_done (by kernel_rfl) ?_ _
    clear hHeld
    go_wp2_with fail
    go_ret
    exact ⟨BoolIs.no (fun h => HC.out h.1), HB0.out.trans (Below.mono (show Below w0.heap.size w0 _ by go_grown) HB0.out.size)⟩

set_option maxHeartbeats 4000000 in
theorem c_InputFitsI {B : Nat} {s0 s1 s2 s3 s4 : SL} {M : MD} {a : Option Addr} {len cap : Nat} {zss : List (List Int)} (w : World) (hBw : B ≤ w.heap.size) (h : ModelAt B w s0 s1 s2 s3 s4 M) (hv : ValsAt B w a len cap zss) :
    Calls Tryz.prog 20 #[.agg (mcells s0 s1 s2 s3 s4).toArray, .slice a len cap] w (FitQ 35 M zss w) := by
  have HMA := Go.Lib.hid h
  have HV := Go.Lib.hid hv
  clear h hv
  simp only [mcells]
  go_enter Tryz.func20, Tryz.ntmps20
  go_upto_region 1 with fail
  refine code_gen (R := fun wb => Boxed s0 s1 s2 s3 s4 w wb) (Boxed.new _ _ _ _ _ _ _) ?_
  intro w0 hbox
  have HX0 := Go.Lib.hid hbox
  obtain ⟨hlt, x0, x1, x2, x3, x4, hBx⟩ := hbox
  have hBk := Nat.le_trans hBw hBx.size
  have HM0 := Go.Lib.hid (HMA.out.below (hBx.mono hBw))
  clear hBx
  go_wp2_with fail
  refine (c_ModelCodeI (B := B) (s0 := s0) (s1 := s1) (s2 := s2) (s3 := s3) (s4 := s4) w0 hBk HM0.out).mono ?_
  rintro e w1 ⟨c, rfl, hc, hq⟩
  have HX1 := Go.Lib.hid (HX0.out.below hq)
  clear hq x0 x1 x2 x3 x4 hlt HM0 hBk
  by_cases hz : c = 0
  · subst hz
    have HC := Go.Lib.hid hc
    have h60 : s0.len ≤ 60 := by have h1 := code0_len hc; rw [HMA.out.ns.1] at h1; exact h1
    clear hc
    obtain ⟨hlt, x0, x1, x2, x3, x4, hBx⟩ := HX1.out
    have hBk := Nat.le_trans hBw hBx.size
    have HM := Go.Lib.hid (HMA.out.below (hBx.mono hBw))
    have HV1 := Go.Lib.hid (HV.out.below (hBx.mono hBw))
    have HBX := Go.Lib.hid hBx
    clear hBx
    go_wp2_with fail
    refine (c_valuesFit (B := B) 35 w1 hBk HM.out.ns h60 HV1.out).mono ?_
    rintro e w2 ⟨⟨r, rfl, hr⟩, hq⟩
    have HR := Go.Lib.hid hr
    have HB2 := Go.Lib.hid (HBX.out.trans (hq.mono HBX.out.size))
    clear hr hq x0 x1 x2 x3 x4
    go_wp2_with fail
    go_ret
    exact ⟨⟨r, rfl, HR.out.trans ⟨fun h => ⟨HC.out, h⟩, fun h => h.2⟩⟩, HB2.out⟩
  · have HC := Go.Lib.hid (show ¬ CodeIs M 0 from fun h => hz (hc.inj h))
    clear hc
    go_wp2_with fail
    go_ret
    exact ⟨BoolIs.no (fun h => HC.out h.1), HX1.out.2.2.2.2.2.2⟩

set_option maxHeartbeats 4000000 in
theorem c_InputFitsS {B : Nat} {s0 s1 s2 s3 s4 : SL} {M : MD} {a : Option Addr} {len cap : Nat} {zss : List (List Int)} (w : World) (hBw : B ≤ w.heap.size) (h : ModelAt B w s0 s1 s2 s3 s4 M) (hv : ValsAt B w a len cap zss) :
    Calls Tryz.prog 35 #[.agg (mcells s0 s1 s2 s3 s4).toArray, .slice a len cap] w (FitQ 35 M zss w) := by
  have HMA := Go.Lib.hid h
  have HV := Go.Lib.hid hv
  clear h hv
  simp only [mcells]
  go_enter Tryz.func35, Tryz.ntmps35
  go_upto_region 1 with fail
  refine code_gen (R := fun wb => Boxed s0 s1 s2 s3 s4 w wb) (Boxed.new _ _ _ _ _ _ _) ?_
  intro w0 hbox
  obtain ⟨hlt, x0, x1, x2, x3, x4, hBx⟩ := hbox
  have hBk := Nat.le_trans hBw hBx.size
  have HM0 := Go.Lib.hid (HMA.out.below (hBx.mono hBw))
  have HV0 := Go.Lib.hid (HV.out.below (hBx.mono hBw))
  have HB0 := Go.Lib.hid hBx
  clear hBx
  by_cases hC : CodeIs M 0
  · have HC := Go.Lib.hid hC
    have h60 : s0.len ≤ 60 := by have h1 := code0_len hC; rw [HMA.out.ns.1] at h1; exact h1
    clear hC
    refine wp_region_held_drew (S := (fun w' => w'.cell? ⟨w.heap.size, 0, none⟩ = some (.slice s0.a s0.len s0.cap) ∧ w'.cell? ⟨w.heap.size, 1, none⟩ = some (.slice s1.a s1.len s1.cap) ∧ w'.cell? ⟨w.heap.size, 2, none⟩ = some (.slice s2.a s2.len s2.cap) ∧ w'.cell? ⟨w.heap.size, 3, none⟩ = some (.slice s3.a s3.len s3.cap) ∧ w'.cell? ⟨w.heap.size, 4, none⟩ = some (.slice s4.a s4.len s4.cap))) (by kernel_rfl) ?_ (fun hHeld => ?_)
    · exact ⟨keepc (by go_grown) hlt x0, keepc (by go_grown) hlt x1, keepc (by go_grown) hlt x2, keepc (by go_grown) hlt x3, keepc (by go_grown) hlt x4⟩
    refine tL 0 (some 5) ?_
    refine wpAnyH_ready (rs := [1]) (by kernel_rfl) (by simp) ?_
    refine AllReadyH.cons (o := _) rfl (fun K hK => ?_) AllReadyH.nil
    go_simp
    refine (c_ModelCodeS (B := B) (s0 := s0) (s1 := s1) (s2 := s2) (s3 := s3) (s4 := s4) _ (Nat.le_trans hBk (by go_size)) (HM0.out.below (Below.mono (show Below w0.heap.size w0 _ by go_grown) hBk))).mono ?_; rintro e w1 ⟨c, rfl, hc, hq⟩; have hb1 : Below w0.heap.size w0 w1 := bstep (by go_grown) (Nat.le_refl _) hq; clear hq; obtain rfl := hc.inj HC.out; clear hc
    (try go_wp2_with fail)
    (try clear hHeld)
    refine hK.out _ _ ?_ (fun hHeld => ?_)
    · exact ⟨keepc (by go_grown) hlt x0, keepc (by go_grown) hlt x1, keepc (by go_grown) hlt x2, keepc (by go_grown) hlt x3, keepc (by go_grown) hlt x4⟩
    clear hK K
    (try simp only [Act.put, List.setIfInBounds_toArray, List.set_cons_zero, List.set_cons_succ])
    refine tL 2 (some 7) ?_
    refine tL 3 (some 8) ?_
    refine tL 4 (some 9) ?_
    refine tL 5 (some 10) ?_
    refine tL 7 (some 12) ?_
    refine wpAnyH_ready (rs := [6]) (by kernel_rfl) (by simp) ?_
    refine AllReadyH.cons (o := _) rfl (fun K hK => ?_) AllReadyH.nil
    go_simp
    refine (c_l2Places (B := B) (s0 := s0) (s1 := s1) (s2 := s2) (s3 := s3) (s4 := s4) 35 _ (Nat.le_trans hBk (by first | exact hb1.size | go_size)) (HM0.out.below (Below.mono (show Below w0.heap.size w0 _ by go_grown) hBk)) h60).mono ?_; rintro e w2 ⟨v, rfl, ho, hq⟩; have hb2 : Below w0.heap.size w0 w2 := bstep (by go_grown) (Nat.le_refl _) hq; obtain ⟨pa, pcap, rfl, -⟩ := own_form ho; have HP := Go.Lib.hid (own_ints ho rfl); clear ho hq
    (try go_wp2_with fail)
    (try clear hHeld)
    refine hK.out _ _ ?_ (fun hHeld => ?_)
    · exact ⟨keepc (by go_grown) hlt x0, keepc (by go_grown) hlt x1, keepc (by go_grown) hlt x2, keepc (by go_grown) hlt x3, keepc (by go_grown) hlt x4⟩
    clear hK K
    (try simp only [Act.put, List.setIfInBounds_toArray, List.set_cons_zero, List.set_cons_succ])
    refine wpAnyH_ready (rs := [8]) (by kernel_rfl) (by simp) ?_
    refine AllReadyH.cons (o := _) rfl (fun K hK => ?_) AllReadyH.nil
    go_simp
    refine (c_l4Fits (B := w2.heap.size) (s0 := s0) (s1 := s1) (s2 := s2) (s3 := s3) (s4 := s4) w2 (Nat.le_refl _) ((HM0.out.below (hb2.mono hBk)).mono (Nat.le_trans hBk hb2.size)) HP.out (fun k hk => by have := plcs_at hk; rw [HMA.out.ns.1] at this; rw [HMA.out.ns.1]; exact this) ((HV0.out.below (hb2.mono hBk)).mono (Nat.le_trans hBk hb2.size))).mono ?_; rintro e w3 ⟨⟨r, rfl, hr⟩, hq⟩; have hb3 : Below w0.heap.size w0 w3 := bstep (by go_grown) (Nat.le_refl _) hq; have HR := Go.Lib.hid hr; clear hq hr
    (try go_wp2_with fail)
    (try clear hHeld)
    refine hK.out _ _ ?_ (fun hHeld => ?_)
    · exact ⟨keepc (by go_grown) hlt x0, keepc (by go_grown) hlt x1, keepc (by go_grown) hlt x2, keepc (by go_grown) hlt x3, keepc (by go_grown) hlt x4⟩
    clear hK K
    (try simp only [Act.put, List.setIfInBounds_toArray, List.set_cons_zero, List.set_cons_succ])
    refine tL 9 (some 14) ?_
    refine tL 10 (some 4) ?_
    refine wpAnyH_done (by kernel_rfl) ?_ _
    clear hHeld
    go_wp2_with fail
    go_ret
    exact ⟨⟨r, rfl, HR.out.trans ⟨fun h => ⟨HC.out, h⟩, fun h => h.2⟩⟩, HB0.out.trans (Below.mono (show Below w0.heap.size w0 _ by go_grown) HB0.out.size)⟩
  · have HC := Go.Lib.hid hC
    clear hC
    refine wp_region_held_drew (S := (fun w' => w'.cell? ⟨w.heap.size, 0, none⟩ = some (.slice s0.a s0.len s0.cap) ∧ w'.cell? ⟨w.heap.size, 1, none⟩ = some (.slice s1.a s1.len s1.cap) ∧ w'.cell? ⟨w.heap.size, 2, none⟩ = some (.slice s2.a s2.len s2.cap) ∧ w'.cell? ⟨w.heap.size, 3, none⟩ = some (.slice s3.a s3.len s3.cap) ∧ w'.cell? ⟨w.heap.size, 4, none⟩ = some (.slice s4.a s4.len s4.cap))) (by kernel_rfl) ?_ (fun hHeld => ?_)
    · exact ⟨keepc (by go_grown) hlt x0, keepc (by go_grown) hlt x1, keepc (by go_grown) hlt x2, keepc (by go_grown) hlt x3, keepc (by go_grown) hlt x4⟩
    refine tL 0 (some 5) ?_
    refine wpAnyH_ready (rs := [1]) (by kernel_rfl) (by simp) ?_
    refine AllReadyH.cons (o := _) rfl (fun K hK => ?_) AllReadyH.nil
    go_simp
    refine (c_ModelCodeS (B := B) (s0 := s0) (s1 := s1) (s2 := s2) (s3 := s3) (s4 := s4) _ (Nat.le_trans hBk (by go_size)) (HM0.out.below (Below.mono (show Below w0.heap.size w0 _ by go_grown) hBk))).mono ?_; rintro e w1 ⟨c, rfl, hc, hq⟩; have hb1 : Below w0.heap.size w0 w1 := bstep (by go_grown) (Nat.le_refl _) hq; clear hq; have hcz : ¬ c = 0 := fun h => HC.out (h ▸ hc); clear hc
    (try go_wp2_with fail)
    (try clear hHeld)
    refine hK.out _ _ ?_ (fun hHeld => ?_)
    · exact ⟨keepc (by go_grown) hlt x0, keepc (by go_grown) hlt x1, keepc (by go_grown) hlt x2, keepc (by go_grown) hlt x3, keepc (by go_grown) hlt x4⟩
    clear hK K
    (try simp only [Act.put, List.setIfInBounds_toArray, List.set_cons_zero, List.set_cons_succ])
    refine tL 2 (some 7) ?_
    (try (generalize hg : (c == 0) = bb; obtain rfl : bb = false := by rw [← hg]; simp [hcz]))
    refine tL 3 (some 8) ?_
    refine tU 4 (some 9) ?_
    refine tU 5 (some 10) ?_
    refine tU 6 (some 11) ?_
    refine tU 7 (some 12) ?_
    refine tU 8 (some 13) ?_
    refine tL 9 (some 14) ?_
    refine tL 10 (some 4) ?_
    refine wpAnyH_done (by kernel_rfl) ?_ _
    clear hHeld
    go_wp2_with fail
    go_ret
    exact ⟨BoolIs.no (fun h => HC.out h.1), HB0.out.trans (Below.mono (show Below w0.heap.size w0 _ by go_grown) HB0.out.size)⟩
end Go.Proofs.YtapecdkdkoobgaaGreat
