/-
  Parts: ModM, ModN, ModO, shortened.
-/
import Derived.Test.YtlcgimadbpagfaaGreatZModK
import Derived.Test.YtlcgimadbpagfaaGreatZModJ
namespace Go.Proofs.YtlcgimadbpagfaaGreat
open Go.Lib
open Go.ChangeShapes Go.WideShapes Go.ChangeAt Go.RowKit Go.Maps Go.ChangeMaps
set_option linter.unusedVariables false
set_option maxRecDepth 100000
def PSet (g n : Nat) (s : Nat → Bool) (w : World) : Prop := SetMap 3 g n (fun z => ∃ j : Nat, s j = true ∧ z = .int .i64 j) w
theorem PSet.has {g n : Nat} {s : Nat → Bool} {w : World} (h : PSet g n s w) (j : Nat) (hj : j ≤ 9223372036854775807) : (Instr.lookup 193 (.map (some g)) (.int .i64 j) false).run Tryz.prog w = .ok (.bool (s j)) w := by
 obtain ⟨x, hx, hs⟩ := SetMap.look h intK mapIB (keyOf_int_mk Tryz.underlying3 (fits_nat hj))
 have : x = s j := by
  rw [Bool.eq_iff_iff, hs]
  constructor
  ·rintro ⟨i, hi, e⟩
   simp only [Lit.int.injEq, true_and] at e
   obtain rfl : j = i := by omega
   exact hi
  ·intro h1; exact ⟨j, h1, rfl⟩
 rw [this] at hx
 exact hx
theorem c_nodePartsN (x : ND) (w : World) : Calls Tryz.prog 136 #[.agg x.cells.toArray] w fun e w' => ∃ g pn : Nat, e = .returned (.slice (some ⟨g, 0, none⟩) pn 3) ∧ (pn : Int) = pcI x.kind ∧ w.heap.size ≤ g ∧ g < w'.heap.size ∧ (∀ t, t < 3 → w'.cell? ⟨g, t, none⟩ = some (.int .i64 (partAt x t))) ∧ Below w.heap.size w w' := by
 refine (c_nodeParts x w).mono ?_
 rintro e w1 ⟨g, rfl, h1⟩
 have := pcI_cases x.kind
 exact ⟨g, _, rfl, by omega, h1⟩
set_option maxHeartbeats 4000000 in
theorem c_madeOf {B : Nat} {a0 : Option Addr} {l0 p0 : Nat} {ns : List ND} (at_ : Nat) (w : World) (hBw : B ≤ w.heap.size) (h : NodesAt B w a0 l0 p0 ns) (hg : nodesGood ns) (h60 : l0 ≤ 60) (ha : at_ < l0) :
  Calls Tryz.prog 204 #[.slice a0 l0 p0, .int .i64 at_] w fun e w' => e = .returned (.map (some w.heap.size)) ∧ (∃ n s, PSet w.heap.size n s w' ∧ (∀ j, s j = true ↔ MadeOf ns at_ j)) ∧ Below w.heap.size w w' := by
 have HN := hid h
 have hl0 : ns.length = l0 := h.1
 have HGD := hid hg
 clear h hg
 have hmm := @run_makeMap Tryz.prog
 go_enter Tryz.func204, Tryz.ntmps204
 go_wp2_with (first | (refine wpList_set_insert _ rfl _ _ _ 193 rfl 3 intK mapIB _ 0 _ rfl (SetMap.made 3 w) (by unfold maxLen; omega) _ _ rfl rfl (keyOf_int_mk Tryz.underlying3 (fits_nat (by omega))) ?_; intro w0 hs0 hg0) | go_in)
 have HB0 := hid (grown_below ((Below.refl w.heap.size w).alloc (Nat.le_refl _) (.map #[] 0)) (Nat.le_refl _) hg0 (by simp))
 have HS0 := hid (show PSet w.heap.size 1 (fun j => decide (j = at_)) w0 from hs0.iff (fun z => by
  constructor
  ·rintro (rfl | h)
   ·exact ⟨at_, by simp, rfl⟩
   ·exact h.elim
  ·rintro ⟨j, hj, rfl⟩
   obtain rfl : j = at_ := by simpa using hj
   exact .inl rfl))
 clear hs0 hg0
 go_loopw [6] (fun i wr => ∃ k : Nat, k ≤ at_ + 1 ∧ i = .int .i64 ((k : Int) - 1) ∧ (∃ n s, n ≤ 1 + 3 * (at_ + 1 - k) ∧ PSet w.heap.size n s wr ∧ MInv ns at_ k s) ∧ Below w.heap.size w wr) (fun i _ => ((intOf i) + 1).toNat)
 case atStart => exact ⟨at_ + 1, by omega, by go_num, ⟨1, _, by omega, HS0.out, MInv.start _ _⟩, HB0.out⟩
 case round =>
  obtain ⟨k, hk, rfl, ⟨n, s, hn, hset, hinv⟩, hBk⟩ := hrel
  have HS := hid hset
  have HI := hid hinv
  have HB := hid hBk
  clear hset hinv hBk HS0 HB0
  cases k with
  | zero =>
   have hki : ¬ (0 : Int) ≤ ((0 : Nat) : Int) - 1 := by omega
   go_wp2_with fail
   go_ret
   exact ⟨rfl, ⟨n, s, HS.out, HI.out.done⟩, HB.out⟩
  | succ k =>
   have hkk : ((k + 1 : Nat) : Int) - 1 = k := by omega
   rw [hkk]
   have hki : (0 : Int) ≤ k := by omega
   have hk9 : (k : Int) < l0 := by omega
   have hlook := HS.out.has k (by omega)
   have hw1 : wrap64 ((k : Int) - 1) = (k : Int) - 1 := IntWalk.wrap64_in _ (by omega)
   cases hsk : s k
   ·rw [hsk] at hlook
    go_wp2_with fail
    go_roundw
    case rel => exact ⟨k, by omega, by first | rfl | go_num, ⟨n, s, by omega, HS.out, HI.out.skip hsk⟩, HB.out⟩
    case measure => simp [intOf] <;> omega
   ·rw [hsk] at hlook
    obtain ⟨nd, hkn, b, off, hnd, hok, rfl, hbB, hc⟩ := node_at ((HN.out.rows.below (HB.out.mono hBw)).nodes) (show k < l0 by omega)
    obtain ⟨c0, c1, c2, c3, c4, c5, c6, c7, c8⟩ := node_cells hc
    have HND := hid (show ns.getD k default = nd by simp [List.getD, hkn, hnd])
    clear hc hnd
    obtain ⟨k0, pa, pb, pc, n0, m0, si, sw, nm⟩ := nd
    simp only at c0 c1 c2 c3 c4 c5 c6 c7 c8
    go_wp2_with (first | (go_at_call 136; refine (c_nodePartsN ⟨k0, pa, pb, pc, n0, m0, si, sw, nm⟩ _).mono ?_; rintro e w1 ⟨g, pn, rfl, hpl0, hg1, hg2, hgc, hB1⟩; have HPL := hid hpl0; clear hpl0))
    clear c0 c1 c2 c3 c4 c5 c6 c7 c8 hlook
    have hpk : pcAt ns k = pcN k0 := by unfold pcAt; rw [HND.out]
    have hpn3 : pn ≤ 3 := by have h1 := HPL.out; have h2 := pcI_cases k0; omega
    have HPK := hid hpk
    have hb1 := HB.out.size
    have hb0 : w.heap.size < wr.heap.size := SetMap.lt HS.out
    have HS1 := hid (show PSet w.heap.size n s w1 from SetMap.below HS.out hB1)
    have HB1 := hid (HB.out.trans (hB1.mono HB.out.size))
    have HGC := hid hgc
    clear hgc hB1
    go_wp2_with fail
    go_loopw [27] (fun i wq => ∃ t : Nat, t ≤ pn ∧ i = .int .i64 t ∧ (∃ n2 s2, n2 ≤ n + t ∧ PSet w.heap.size n2 s2 wq ∧ MStep ns at_ k t s s2) ∧ Below w.heap.size w wq ∧ g < wq.heap.size ∧ ∀ u, u < 3 → wq.cell? ⟨g, u, none⟩ = some (.int .i64 (partAt ⟨k0, pa, pb, pc, n0, m0, si, sw, nm⟩ u))) (fun i _ => pn - (intOf i).toNat)
    case atStart => exact ⟨0, by omega, rfl, ⟨n, s, by omega, HS1.out, MStep.start HI.out⟩, HB1.out, hg2, HGC.out⟩
    case round =>
     obtain ⟨t, ht, rfl, ⟨n2, s2, hn2, hset, hst⟩, hB2, hg4, hgc⟩ := hrel
     have HS2 := hid hset
     have HST := hid hst
     have HB2 := hid hB2
     clear hset hst hB2 HGC HS1 HB1
     by_cases htp : t < pn
     ·have hti : (t : Int) < pn := by omega
      have e0 := hgc t (by omega)
      have htq : (t : Int) < pcAt ns k := by rw [HPK.out]; have hpl := HPL.out; unfold pcI at hpl; split at hpl <;> omega
      have hgp := good_part HGD.out (show k < ns.length by omega) htq
      rw [HND.out] at hgp
      have hpq : partAt ⟨k0, pa, pb, pc, n0, m0, si, sw, nm⟩ t = (prt ns k t : Int) := by unfold prt; rw [HND.out]; omega
      rw [hpq] at e0
      have hwp : (Lit.int .i64 (prt ns k t : Int)).wf = true := fits_nat (by omega)
      have HGC := hid hgc
      clear hgc hgp hpq
      go_wp2_with (first | (at_mapUpdate; refine wpList_set_store _ rfl _ _ _ 193 rfl 3 intK mapIB _ n2 _ rfl HS2.out (by unfold maxLen; omega) _ _ rfl rfl (keyOf_int_mk Tryz.underlying3 hwp) ?_; intro w3 hs3 hg3) | go_in)
      have HN3 := hid (HST.out.next hsk HGD.out (show k < ns.length by omega) htq)
      have hne : some g ≠ some w.heap.size := by simp; omega
      go_roundw
      case rel => exact ⟨t + 1, by omega, by go_num, ⟨n2 + 1, _, by omega, SetMap.iff hs3 (fun z => by
        constructor
        ·rintro (rfl | ⟨j, hj, rfl⟩)
         ·exact ⟨prt ns k t, by simp, rfl⟩
         ·exact ⟨j, by by_cases hjp : j = prt ns k t <;> simp [hjp, hj], rfl⟩
        ·rintro ⟨j, hj, rfl⟩
         by_cases hjp : j = prt ns k t
         ·exact .inl (by rw [hjp])
         ·exact .inr ⟨j, by simpa [hjp] using hj, rfl⟩), HN3.out⟩, grown_below HB2.out (Nat.le_refl _) hg3 HB2.out.size, Nat.lt_of_lt_of_le hg4 hg3.size, fun u hu => hg3.cell (HGC.out u hu) hne⟩
      case measure => simp [intOf] <;> omega
     ·have hti : ¬ (t : Int) < pn := by omega
      have HDN := hid (MStep.done HI.out HST.out (show pcAt ns k ≤ t by rw [HPK.out]; have hpl := HPL.out; unfold pcI at hpl; split at hpl <;> omega))
      clear hgc
      go_wp2_with fail
      go_roundw
      case rel => exact ⟨k, by omega, by first | rfl | go_num, ⟨n2, s2, by omega, HS2.out, HDN.out⟩, HB2.out⟩
      case measure => simp [intOf] <;> omega
theorem named_iff (k : Int) : namedB k = true ↔ (k = 36 ∨ k = 35) := by unfold namedB; by_cases h1 : k = 35 <;> by_cases h2 : k = 36 <;> simp [h1, h2]
theorem wpList_next_set {ops : Array Oper} {rest : List Oper} {o : Oper} {a : Act} {Q : Exit → Act → World → Prop} (w : World) (hg : o.guard = none) (it : Operand) (hop : o.op = Op.next it false)
  (b r n : Nat) (D : DataW Unit) (left : Lit → Bool) (cnt : Nat) (hit : a.eval it = .pointer (some ⟨r, 0, none⟩)) (h : w.ranges Tryz.prog 3 (plainElem Tryz.prog 4) b r n D left cnt)
  (hDone : cnt = 0 → (∀ kl, left kl = false) → wpList Tryz.prog ops Q rest (a.put o.dst (.tuple #[.bool false])) w)
  (hMore : ∀ (x : Int) (c : Value) (w' : World) (cnt' : Nat), (Lit.int .i64 x).wf = true → left (.int .i64 x) = true → Maps.has D (.int .i64 x) = true → w'.ranges Tryz.prog 3 (plainElem Tryz.prog 4) b r n D (fun z => left z && !z.sameKey (.int .i64 x)) cnt' → cnt' < cnt →
   w.grownBy w' (some r) → w'.heap.size = w.heap.size → (Instr.entry (.pointer (some ⟨r, 0, none⟩))).run Tryz.prog w' = .ok (.tuple #[.int .i64 x, c]) w' → wpList Tryz.prog ops Q rest (a.put o.dst (.tuple #[.bool true, .int .i64 x, c])) w') :
  wpList Tryz.prog ops Q (o :: rest) a w :=
 wpList_next_ranges w hg it hop 3 intK (plainElem Tryz.prog 4) (Value.int .i64) (fun v : Value => v) (fun key kl hkey => by obtain ⟨x, rfl, _⟩ := Maps.keyOf_int_inv Tryz.underlying3 hkey; exact ⟨x, rfl⟩) (fun v y hv => ⟨v, rfl⟩)
  b r n D left cnt hit h hDone (fun x c kl y w' cnt' hkey hlk hv hat hrg hlt hgr hsz hen => by
   obtain ⟨x', ex, rfl, hwx⟩ := Maps.keyOf_int_inv Tryz.underlying3 hkey
   cases ex
   exact hMore x c w' cnt' hwx hlk (has_true_of_atKey hat) hrg hlt hgr hsz hen)
set_option maxHeartbeats 4000000 in
theorem c_hangsOnRun {B : Nat} {a0 : Option Addr} {l0 p0 : Nat} {ns : List ND} (at_ : Nat) (w : World) (hBw : B ≤ w.heap.size) (h : NodesAt B w a0 l0 p0 ns) (hg : nodesGood ns) (h60 : l0 ≤ 60) (ha : at_ < l0) :
  Calls Tryz.prog 182 #[.slice a0 l0 p0, .int .i64 at_] w fun e w' => BoolIs (¬ fixedN ns at_) e ∧ Below w.heap.size w w' := by
 have HN := hid h
 have hl0 : ns.length = l0 := h.1
 have HGD := hid hg
 clear h hg
 go_enter Tryz.func182, Tryz.ntmps182
 go_wp2_with (first | (go_at_call 204; refine (c_madeOf at_ _ hBw HN.out HGD.out h60 ha).mono ?_; rintro e w1 ⟨rfl, ⟨n, s, ⟨D, hown, hmap, hD⟩, hs⟩, hB1⟩; have HS := hid hs; have HD := hid hD; have HB1 := hid hB1; have HO := hid hown; clear hs hD hB1 hown hmap) | (at_range; refine wpList_range_own _ rfl _ 193 rfl 3 4 intK mapIB _ _ _ _ rfl HO.out ?_; intro w2 hrg2 hg2 hs2) | go_in)
 go_frame
 have HB2 := hid (HB1.out.grown hg2 HB1.out.size (fun j hj => by cases hj))
 have hb1 := HB1.out.size
 have HR2 := hid hrg2
 clear hrg2 hg2
 go_loopw [5] (fun _ wr => (∃ left cnt, wr.ranges Tryz.prog 3 (plainElem Tryz.prog 4) w.heap.size w1.heap.size n D left cnt ∧ ∀ j : Nat, s j = true → left (.int .i64 j) = false → ¬ ((ns.getD j default).kind = 36 ∨ (ns.getD j default).kind = 35)) ∧ Below w.heap.size w wr) (fun _ wr => wr.rangeLeft w.heap.size w1.heap.size)
 case atStart => exact ⟨⟨_, _, HR2.out, fun j hj hl => absurd ((HD.out (.int .i64 j)).1.2 ⟨j, hj, rfl⟩) (by rw [hl]; simp)⟩, HB2.out⟩
 case round =>
  obtain ⟨⟨left, cnt, hrg, hno⟩, hBr⟩ := hrel
  have HNO := hid hno
  have HB := hid hBr
  have HRG := hid hrg
  clear hno hBr hrg HR2 HB2
  go_wp2_with (first | (at_next; refine wpList_next_set _ rfl _ rfl _ _ _ _ _ _ rfl HRG.out ?_ ?_) | go_in)
  ·intro _ hl0'
   have HL := hid hl0'
   clear hl0'
   go_wp2_with fail
   go_ret
   exact ⟨BoolIs.no (fun hh => hh (fun j hj => HNO.out j ((HS.out j).2 hj) (HL.out _))), HB.out⟩
  ·intro x c w3 cnt3 hwx hlx hhas hrg3 hlt3 hg3 hs3 hen
   obtain ⟨j, hj, ej⟩ := (HD.out _).1.1 hhas
   simp only [Lit.int.injEq, true_and] at ej
   subst ej
   have HRG3 := hid hrg3
   have HB3 := hid (grown_below HB.out hb1 hg3 HB.out.size)
   have HM := hid ((HS.out j).1 hj)
   have hjl : j < l0 := by have := MadeOf.le HGD.out (show at_ < ns.length by omega) HM.out; omega
   have hji : (j : Int) < l0 := by omega
   have HLX := hid hlx
   have HLT := hid hlt3
   clear hhas hrg3 hg3 hlx hlt3
   obtain ⟨kd, b, off, hkd, rfl, hbB, c0⟩ := node_kind ((HN.out.rows.below (HB3.out.mono hBw)).nodes) hjl
   have HKD := hid hkd
   clear hkd
   by_cases hnm : namedB kd = true
   ·go_wp2_with (first | (go_at_call 90; refine (c_kindNamed _ _).mono ?_; rw [hnm]; rintro e w' ⟨rfl, rfl⟩))
    go_ret
    exact ⟨BoolIs.yes (fun hh => hh j HM.out (by rw [HKD.out]; exact (named_iff _).1 hnm)), HB3.out⟩
   ·have hnf : namedB kd = false := by simpa using hnm
    go_wp2_with (first | (go_at_call 90; refine (c_kindNamed _ _).mono ?_; rw [hnf]; rintro e w' ⟨rfl, rfl⟩))
    go_roundw
    case rel => exact ⟨⟨_, _, HRG3.out, fun i hi hl => by
      by_cases hij : i = j
      ·subst hij
       intro hh; rw [HKD.out] at hh; exact hnm ((named_iff _).2 hh)
      ·refine HNO.out i hi ?_
       have : (Lit.int .i64 (i : Int)).sameKey (.int .i64 j) = false := sameKey_ne (by simp; omega)
       simpa [this] using hl⟩, HB3.out⟩
    case measure => rw [HRG3.out.left_eq, HRG.out.left_eq]; exact HLT.out
end Go.Proofs.YtlcgimadbpagfaaGreat
namespace Go.Proofs.YtlcgimadbpagfaaGreat
open Go.Lib
open Go.ChangeShapes Go.WideShapes Go.ChangeAt Go.RowKit
set_option linter.unusedVariables false
set_option maxRecDepth 100000
def plcN (ns : List ND) (b : BD) : Prop := (0 ≤ b.st ∧ b.st < ns.length) ∧ (ns.getD b.st.toNat default).kind = 36 ∧ (0 ≤ b.nd ∧ b.nd < ns.length)
set_option maxHeartbeats 4000000 in
theorem c_bindPlacesOk {B : Nat} {a0 : Option Addr} {l0 p0 : Nat} {ns : List ND} (b : BD) (w : World) (hBw : B ≤ w.heap.size) (h : NodesAt B w a0 l0 p0 ns) :
  Calls Tryz.prog 180 #[.slice a0 l0 p0, .agg #[.int .i64 b.st, .int .i64 b.nd]] w fun e w' => BoolIs (plcN ns b) e ∧ Below w.heap.size w w' := by
 have HN := hid h
 have hl0 : ns.length = l0 := h.1
 have hml : l0 ≤ maxLen := Nat.le_trans h.2.1 h.2.2.1
 clear h
 obtain ⟨st, nd⟩ := b
 simp only
 by_cases hs : 0 ≤ st ∧ st < l0
 ·have hd1 : decide (0 ≤ st ∧ st < (l0 : Int)) = true := by simpa using hs
  obtain ⟨p, rfl⟩ : ∃ p : Nat, st = p := ⟨st.toNat, by omega⟩
  have hpl : (p : Int) < l0 := hs.2
  obtain ⟨kd, b, off, hkd, rfl, hbB, c0⟩ := node_kind HN.out (show p < l0 by omega)
  have HKD := hid (show (ns.getD (p : Int).toNat default).kind = kd by simpa using hkd)
  have hbw : b < w.heap.size := Nat.lt_of_lt_of_le hbB hBw
  clear hkd hs
  by_cases h36 : kd = 36
  ·subst h36
   by_cases hn : 0 ≤ nd ∧ nd < l0
   ·have hd2 : decide (0 ≤ nd ∧ nd < (l0 : Int)) = true := by simpa using hn
    have HY := hid (show plcN ns ⟨p, nd⟩ from ⟨⟨by simp only; omega, by simp only; omega⟩, HKD.out, ⟨hn.1, by simp only; omega⟩⟩)
    clear hn
    go_enter Tryz.func180, Tryz.ntmps180
    go_wp2_with (first | (go_at_call 183; refine (c_placeOk hml _ _).mono ?_; (first | rw [hd1] | rw [hd2]); rintro e w' ⟨rfl, rfl⟩))
    go_ret
    exact ⟨BoolIs.yes HY.out, by go_grown⟩
   ·have hd2 : decide (0 ≤ nd ∧ nd < (l0 : Int)) = false := by simpa using hn
    have HNO := hid (show ¬ plcN ns ⟨p, nd⟩ from fun hh => hn ⟨hh.2.2.1, by have := hh.2.2.2; simp only at this; omega⟩)
    clear hn
    go_enter Tryz.func180, Tryz.ntmps180
    go_wp2_with (first | (go_at_call 183; refine (c_placeOk hml _ _).mono ?_; (first | rw [hd1] | rw [hd2]); rintro e w' ⟨rfl, rfl⟩))
    go_ret
    exact ⟨BoolIs.no HNO.out, by go_grown⟩
  ·have q1 : (kd == 36) = false := by simpa using h36
   have HNO := hid (show ¬ plcN ns ⟨p, nd⟩ from fun hh => h36 (HKD.out.symm.trans hh.2.1))
   have hd2 := hd1
   go_enter Tryz.func180, Tryz.ntmps180
   go_wp2_with (first | (go_at_call 183; refine (c_placeOk hml _ _).mono ?_; (first | rw [hd1] | rw [hd2]); rintro e w' ⟨rfl, rfl⟩))
   go_ret
   exact ⟨BoolIs.no HNO.out, by go_grown⟩
 ·have hd1 : decide (0 ≤ st ∧ st < (l0 : Int)) = false := by simpa using hs
  have hd2 := hd1
  have HNO := hid (show ¬ plcN ns ⟨st, nd⟩ from fun hh => hs ⟨hh.1.1, by have := hh.1.2; simp only at this; omega⟩)
  clear hs
  go_enter Tryz.func180, Tryz.ntmps180
  go_wp2_with (first | (go_at_call 183; refine (c_placeOk hml _ _).mono ?_; (first | rw [hd1] | rw [hd2]); rintro e w' ⟨rfl, rfl⟩))
  go_ret
  exact ⟨BoolIs.no HNO.out, by go_grown⟩
def isrtN (ns : List ND) (p r : Nat) : Prop := sortAt ns r = sortAt ns p ∨ sortAt ns r = (0, (sortAt ns p).2)
theorem cell2_0 (W : World) (cs : Array Value) (t : TypeId) (C : Obj) (i : Nat) : ((W.alloc (.cells cs t)).alloc C).cell? ⟨W.heap.size, i, none⟩ = cs[i]? :=
 (Below.cell (w := W.alloc (.cells cs t)) (B := (W.alloc (.cells cs t)).heap.size) (by go_grown) (p := ⟨W.heap.size, i, none⟩) (alloc_ltS _ _)).trans (World.cell?_alloc_new _ _ _ _)
set_option maxHeartbeats 4000000 in
theorem c_initSortOk {B : Nat} {a0 : Option Addr} {l0 p0 : Nat} {ns : List ND} (p r : Nat) (w : World) (hBw : B ≤ w.heap.size) (h : NodesAt B w a0 l0 p0 ns) (hp : p < l0) (hr : r < l0) :
  Calls Tryz.prog 181 #[.slice a0 l0 p0, .agg #[.int .i64 p, .int .i64 r]] w fun e w' => BoolIs (isrtN ns p r) e ∧ Below w.heap.size w w' := by
 obtain ⟨i1, w1, b, off, hs3, rfl, hbB, d6, d7⟩ := node_sort h hp
 obtain ⟨i2, w2, b2, o2, hs4, e2, -, f6, f7⟩ := node_sort h hr
 simp only [Option.some.injEq, Addr.mk.injEq, and_true] at e2
 obtain ⟨rfl, rfl⟩ := e2
 have HS3 := hid hs3
 have HS4 := hid hs4
 have hbw : b < w.heap.size := Nat.lt_of_lt_of_le hbB hBw
 have hpl : (p : Int) < l0 := by omega
 have hrl : (r : Int) < l0 := by omega
 clear hs3 hs4 h
 go_enter Tryz.func181, Tryz.ntmps181
 go_upto_region 1 with fail
 refine code_gen (R := fun wb => wb.cell? ⟨w.heap.size, 0, none⟩ = some (.int .i64 p) ∧ wb.cell? ⟨w.heap.size, 1, none⟩ = some (.int .i64 r) ∧ w.heap.size < wb.heap.size ∧ Below w.heap.size w wb) ⟨by simp, by simp, by simp, by go_grown⟩ ?_
 rintro wb ⟨z0, z1, hlb, hBb⟩
 have hbb : b < wb.heap.size := by omega
 have c6 := keepc hBb hbw d6
 have c7 := keepc hBb hbw d7
 have k6 := keepc hBb hbw f6
 have k7 := keepc hBb hbw f7
 have HBB := hid hBb
 clear hBb d6 d7 f6 f7
 go_cut [5, 6] (fun s5 s6 wx => ∃ g5 g6 : Nat, s5 = .pointer (some ⟨g5, 0, none⟩) ∧ s6 = .pointer (some ⟨g6, 0, none⟩) ∧ g5 < wx.heap.size ∧ g6 < wx.heap.size ∧ wx.cell? ⟨g5, 0, none⟩ = some (.int .i64 i1) ∧ wx.cell? ⟨g5, 1, none⟩ = some (.int .i64 w1) ∧ wx.cell? ⟨g6, 0, none⟩ = some (.int .i64 i2) ∧ wx.cell? ⟨g6, 1, none⟩ = some (.int .i64 w2) ∧ Below wb.heap.size wb wx)
 case first =>
  go_region_held3 (fun w' => w'.cell? ⟨w.heap.size, 0, none⟩ = some (.int .i64 p) ∧ w'.cell? ⟨w.heap.size, 1, none⟩ = some (.int .i64 r) ∧ w'.cell? ⟨b, off + p * 9 + 6, none⟩ = some (.int .i64 i1) ∧ w'.cell? ⟨b, off + p * 9 + 7, none⟩ = some (.int .i64 w1) ∧ w'.cell? ⟨b, off + r * 9 + 6, none⟩ = some (.int .i64 i2) ∧ w'.cell? ⟨b, off + r * 9 + 7, none⟩ = some (.int .i64 w2)) (exact ⟨keepc (by go_grown) hlb z0, keepc (by go_grown) hlb z1, keepc (by go_grown) hbb c6, keepc (by go_grown) hbb c7, keepc (by go_grown) hbb k6, keepc (by go_grown) hbb k7⟩) (fail)
  all_goals
   go_wp2_with fail
   go_meet
   refine ⟨_, _, rfl, rfl, ?_, ?_, ?_, ?_, ?_, ?_, ?_⟩
   all_goals first | (simp; done) | (simp; omega) | (go_grown; done) | exact cell2_0 _ _ _ _ _
 case rest =>
  obtain ⟨g5, g6, rfl, rfl, l5, l6, a0, a1, b0, b1, hB⟩ := hcut
  have HB := hid (HBB.out.trans (hB.mono HBB.out.size))
  clear hB z0 z1 c6 c7 k6 k7
  go_upto_region 2 with fail
  by_cases hi : i2 = i1
  ·subst hi
   by_cases hw : w2 = w1
   ·subst hw
    have HY := hid (show isrtN ns p r from .inl (by rw [HS3.out, HS4.out]))
    refine wp_region_held_drew (S := (fun w' => w'.cell? ⟨g5, 0, none⟩ = some (.int .i64 i2) ∧ w'.cell? ⟨g5, 1, none⟩ = some (.int .i64 w2) ∧ w'.cell? ⟨g6, 0, none⟩ = some (.int .i64 i2) ∧ w'.cell? ⟨g6, 1, none⟩ = some (.int .i64 w2))) (by kernel_rfl) ?_ (fun hHeld => ?_)
    ·exact ⟨keepc (by go_grown) l5 a0, keepc (by go_grown) l5 a1, keepc (by go_grown) l6 b0, keepc (by go_grown) l6 b1⟩
    refine tL 0 (some 19) ?_
    refine tL 1 (some 20) ?_
    refine tL 2 (some 21) ?_
    refine tL 3 (some 22) ?_
    refine tU 4 (some 23) ?_
    refine tU 5 (some 24) ?_
    refine tU 6 (some 25) ?_
    refine tU 7 (some 26) ?_
    refine tU 8 (some 27) ?_
    refine tL 9 (some 28) ?_
    refine tL 10 (some 4) ?_
    refine wpAnyH_done (by kernel_rfl) ?_ _
    clear hHeld
    go_wp2_with fail
    go_ret
    exact ⟨BoolIs.yes HY.out, HB.out.trans (Below.mono (show Below wc.heap.size wc _ by go_grown) HB.out.size)⟩
   ·have q1 : (w2 == w1) = false := by simpa using hw
    have HNO := hid (show ¬ isrtN ns p r from fun hh => by
     rcases hh with h1 | h1 <;> rw [HS3.out, HS4.out] at h1 <;> simp only [Prod.mk.injEq] at h1 <;> exact hw h1.2)
    refine wp_region_held_drew (S := (fun w' => w'.cell? ⟨g5, 0, none⟩ = some (.int .i64 i2) ∧ w'.cell? ⟨g5, 1, none⟩ = some (.int .i64 w1) ∧ w'.cell? ⟨g6, 0, none⟩ = some (.int .i64 i2) ∧ w'.cell? ⟨g6, 1, none⟩ = some (.int .i64 w2))) (by kernel_rfl) ?_ (fun hHeld => ?_)
    ·exact ⟨keepc (by go_grown) l5 a0, keepc (by go_grown) l5 a1, keepc (by go_grown) l6 b0, keepc (by go_grown) l6 b1⟩
    refine tL 0 (some 19) ?_
    refine tL 1 (some 20) ?_
    refine tL 2 (some 21) ?_
    refine tL 3 (some 22) ?_
    refine tL 4 (some 23) ?_
    refine tL 5 (some 24) ?_
    refine tL 6 (some 25) ?_
    refine wpAnyH_ready (rs := [7]) (by kernel_rfl) (by simp) ?_
    refine .cons (o := _) rfl (fun K hK => ?_) .nil
    go_simp
    refine (c_wordSort _ _).mono ?_; rintro e w' ⟨rfl, rfl⟩
    (try go_wp2_with fail)
    (try clear hHeld)
    refine hK.out _ _ ?_ (fun hHeld => ?_)
    ·exact ⟨keepc (by go_grown) l5 a0, keepc (by go_grown) l5 a1, keepc (by go_grown) l6 b0, keepc (by go_grown) l6 b1⟩
    clear hK K
    (try simp only [Act.put, zq1, zq2, zq3])
    refine tL 8 (some 27) ?_
    refine tL 9 (some 28) ?_
    refine tL 10 (some 4) ?_
    refine wpAnyH_done (by kernel_rfl) ?_ _
    clear hHeld
    go_wp2_with fail
    go_ret
    exact ⟨BoolIs.no HNO.out, HB.out.trans (Below.mono (show Below wc.heap.size wc _ by go_grown) HB.out.size)⟩
  ·have q1 : (i2 == i1) = false := by simpa using hi
   by_cases hz : i2 = 0
   ·subst hz
    by_cases hw : w2 = w1
    ·subst hw
     have HY := hid (show isrtN ns p r from .inr (by rw [HS3.out, HS4.out]))
     refine wp_region_held_drew (S := (fun w' => w'.cell? ⟨g5, 0, none⟩ = some (.int .i64 i1) ∧ w'.cell? ⟨g5, 1, none⟩ = some (.int .i64 w2) ∧ w'.cell? ⟨g6, 0, none⟩ = some (.int .i64 0) ∧ w'.cell? ⟨g6, 1, none⟩ = some (.int .i64 w2))) (by kernel_rfl) ?_ (fun hHeld => ?_)
     ·exact ⟨keepc (by go_grown) l5 a0, keepc (by go_grown) l5 a1, keepc (by go_grown) l6 b0, keepc (by go_grown) l6 b1⟩
     refine tL 0 (some 19) ?_
     refine tL 1 (some 20) ?_
     refine tL 2 (some 21) ?_
     refine tL 3 (some 22) ?_
     refine tL 4 (some 23) ?_
     refine tL 5 (some 24) ?_
     refine tL 6 (some 25) ?_
     refine wpAnyH_ready (rs := [7]) (by kernel_rfl) (by simp) ?_
     refine .cons (o := _) rfl (fun K hK => ?_) .nil
     go_simp
     refine (c_wordSort _ _).mono ?_; rintro e w' ⟨rfl, rfl⟩
     (try go_wp2_with fail)
     (try clear hHeld)
     refine hK.out _ _ ?_ (fun hHeld => ?_)
     ·exact ⟨keepc (by go_grown) l5 a0, keepc (by go_grown) l5 a1, keepc (by go_grown) l6 b0, keepc (by go_grown) l6 b1⟩
     clear hK K
     (try simp only [Act.put, zq1, zq2, zq3])
     refine tL 8 (some 27) ?_
     refine tL 9 (some 28) ?_
     refine tL 10 (some 4) ?_
     refine wpAnyH_done (by kernel_rfl) ?_ _
     clear hHeld
     go_wp2_with fail
     go_ret
     exact ⟨BoolIs.yes HY.out, HB.out.trans (Below.mono (show Below wc.heap.size wc _ by go_grown) HB.out.size)⟩
    ·have q2 : (w2 == w1) = false := by simpa using hw
     have HNO := hid (show ¬ isrtN ns p r from fun hh => by
      rcases hh with h1 | h1 <;> rw [HS3.out, HS4.out] at h1 <;> simp only [Prod.mk.injEq] at h1 <;> exact hw h1.2)
     refine wp_region_held_drew (S := (fun w' => w'.cell? ⟨g5, 0, none⟩ = some (.int .i64 i1) ∧ w'.cell? ⟨g5, 1, none⟩ = some (.int .i64 w1) ∧ w'.cell? ⟨g6, 0, none⟩ = some (.int .i64 0) ∧ w'.cell? ⟨g6, 1, none⟩ = some (.int .i64 w2))) (by kernel_rfl) ?_ (fun hHeld => ?_)
     ·exact ⟨keepc (by go_grown) l5 a0, keepc (by go_grown) l5 a1, keepc (by go_grown) l6 b0, keepc (by go_grown) l6 b1⟩
     refine tL 0 (some 19) ?_
     refine tL 1 (some 20) ?_
     refine tL 2 (some 21) ?_
     refine tL 3 (some 22) ?_
     refine tL 4 (some 23) ?_
     refine tL 5 (some 24) ?_
     refine tL 6 (some 25) ?_
     refine wpAnyH_ready (rs := [7]) (by kernel_rfl) (by simp) ?_
     refine .cons (o := _) rfl (fun K hK => ?_) .nil
     go_simp
     refine (c_wordSort _ _).mono ?_; rintro e w' ⟨rfl, rfl⟩
     (try go_wp2_with fail)
     (try clear hHeld)
     refine hK.out _ _ ?_ (fun hHeld => ?_)
     ·exact ⟨keepc (by go_grown) l5 a0, keepc (by go_grown) l5 a1, keepc (by go_grown) l6 b0, keepc (by go_grown) l6 b1⟩
     clear hK K
     (try simp only [Act.put, zq1, zq2, zq3])
     refine tL 8 (some 27) ?_
     refine tL 9 (some 28) ?_
     refine tL 10 (some 4) ?_
     refine wpAnyH_done (by kernel_rfl) ?_ _
     clear hHeld
     go_wp2_with fail
     go_ret
     exact ⟨BoolIs.no HNO.out, HB.out.trans (Below.mono (show Below wc.heap.size wc _ by go_grown) HB.out.size)⟩
   ·have q2 : (i2 == 0) = false := by simpa using hz
    have HNO := hid (show ¬ isrtN ns p r from fun hh => by
     rcases hh with h1 | h1 <;> rw [HS3.out, HS4.out] at h1 <;> simp only [Prod.mk.injEq] at h1
     ·exact hi h1.1
     ·exact hz h1.1)
    refine wp_region_held_drew (S := (fun w' => w'.cell? ⟨g5, 0, none⟩ = some (.int .i64 i1) ∧ w'.cell? ⟨g5, 1, none⟩ = some (.int .i64 w1) ∧ w'.cell? ⟨g6, 0, none⟩ = some (.int .i64 i2) ∧ w'.cell? ⟨g6, 1, none⟩ = some (.int .i64 w2))) (by kernel_rfl) ?_ (fun hHeld => ?_)
    ·exact ⟨keepc (by go_grown) l5 a0, keepc (by go_grown) l5 a1, keepc (by go_grown) l6 b0, keepc (by go_grown) l6 b1⟩
    refine tL 0 (some 19) ?_
    refine tL 1 (some 20) ?_
    refine tL 2 (some 21) ?_
    refine tL 3 (some 22) ?_
    refine tL 4 (some 23) ?_
    refine tL 5 (some 24) ?_
    refine tL 6 (some 25) ?_
    refine wpAnyH_ready (rs := [7]) (by kernel_rfl) (by simp) ?_
    refine .cons (o := _) rfl (fun K hK => ?_) .nil
    go_simp
    refine (c_wordSort _ _).mono ?_; rintro e w' ⟨rfl, rfl⟩
    (try go_wp2_with fail)
    (try clear hHeld)
    refine hK.out _ _ ?_ (fun hHeld => ?_)
    ·exact ⟨keepc (by go_grown) l5 a0, keepc (by go_grown) l5 a1, keepc (by go_grown) l6 b0, keepc (by go_grown) l6 b1⟩
    clear hK K
    (try simp only [Act.put, zq1, zq2, zq3])
    refine tL 8 (some 27) ?_
    refine tL 9 (some 28) ?_
    refine tL 10 (some 4) ?_
    refine wpAnyH_done (by kernel_rfl) ?_ _
    clear hHeld
    go_wp2_with fail
    go_ret
    exact ⟨BoolIs.no HNO.out, HB.out.trans (Below.mono (show Below wc.heap.size wc _ by go_grown) HB.out.size)⟩
end Go.Proofs.YtlcgimadbpagfaaGreat
namespace Go.Proofs.YtlcgimadbpagfaaGreat
open Go.Lib
open Go.ChangeShapes Go.WideShapes Go.ChangeAt Go.RowKit
set_option linter.unusedVariables false
set_option maxRecDepth 100000
def nextsOk (M : MD) : Prop := ∀ t, t < M.xs.length → boundN M.ns (M.xs.getD t default)
def initsOk (M : MD) : Prop := ∀ t, t < M.is.length → initN M.ns (M.is.getD t default)
theorem bindsN_iff (M : MD) : bindsN M ↔ initsOk M ∧ nextsOk M := Iff.rfl
theorem boundN_iff (ns : List ND) (b : BD) : boundN ns b ↔ plcN ns b ∧ sortAt ns b.st = sortAt ns b.nd := by
 unfold boundN plcN
 constructor
 ·rintro ⟨h1, h2, h3, h4⟩; exact ⟨⟨h1, h3, h2⟩, h4⟩
 ·rintro ⟨⟨h1, h3, h2⟩, h4⟩; exact ⟨h1, h2, h3, h4⟩
theorem initN_iff (ns : List ND) (p r : Nat) : initN ns ⟨p, r⟩ ↔ plcN ns ⟨p, r⟩ ∧ isrtN ns p r ∧ fixedN ns r := by
 unfold initN wordN boundN plcN isrtN
 simp only [Int.toNat_natCast]
 constructor
 ·rintro ⟨⟨h1, h2, h3, h4⟩ | ⟨h1, h2, h3, h4⟩, h5⟩
  ·exact ⟨⟨h1, h3, h2⟩, .inr h4, h5⟩
  ·exact ⟨⟨h1, h3, h2⟩, .inl h4.symm, h5⟩
 ·rintro ⟨⟨h1, h3, h2⟩, h4 | h4, h5⟩
  ·exact ⟨.inr ⟨h1, h2, h3, h4.symm⟩, h5⟩
  ·exact ⟨.inl ⟨h1, h2, h3, h4⟩, h5⟩
theorem initN_plc {ns : List ND} {b : BD} (h : initN ns b) : plcN ns b := by
 rcases h.1 with h | h
 ·exact ⟨h.1, h.2.2.1, h.2.1⟩
 ·exact ((boundN_iff _ _).1 h).1
set_option maxHeartbeats 8000000 in
theorem c_hasBadNext {B : Nat} {s0 s1 s2 s3 s4 : SL} {M : MD} (w : World) (hBw : B ≤ w.heap.size) (h : ModelAt B w s0 s1 s2 s3 s4 M) (hg : nodesGood M.ns) :
  Calls Tryz.prog 144 #[.agg (mcells s0 s1 s2 s3 s4).toArray] w fun e w' => BoolIs (¬ nextsOk M) e ∧ Below w.heap.size w w' := by
 have HMA := hid h
 have HN := hid h.ns
 have HI := hid h.xs
 have hl0 : M.ns.length = s0.len := h.ns.1
 have hll : M.xs.length = s2.len := h.xs.1
 have hm1 := Nat.le_trans h.xs.2.1 h.xs.2.2.1
 unfold maxLen at hm1
 have HGD := hid hg
 clear h hg
 obtain ⟨a0, l0, p0⟩ := s0
 obtain ⟨a1, l1, p1⟩ := s1
 obtain ⟨a2, l2, p2⟩ := s2
 simp only [mcells] at *
 go_enter Tryz.func144, Tryz.ntmps144
 go_wp2_with fail
 go_loopw [8] (fun i wr => ∃ t : Nat, t ≤ l2 ∧ i = .int .i64 t ∧ (∀ y, y < t → boundN M.ns (M.xs.getD y default)) ∧ Boxed ⟨a0, l0, p0⟩ ⟨a1, l1, p1⟩ ⟨a2, l2, p2⟩ s3 s4 w wr) (fun i _ => l2 - (intOf i).toNat)
 case atStart => exact ⟨0, by omega, rfl, fun t h => by omega, Boxed.new _ _ _ _ _ _ _⟩
 case round =>
  obtain ⟨t, ht, rfl, hno, HX0⟩ := hrel
  have HNO := hid hno
  have HXR := hid HX0
  obtain ⟨hlt, -, -, -, -, -, hBk⟩ := HX0
  have HB := hid hBk
  clear hno hBk
  by_cases htl : t < l2
  ·have hti : (t : Int) < l2 := by omega
   obtain ⟨bd, bb, bo, hbd, hbok, rfl, hbB, e0, e1⟩ := bind_at (HI.out.below (HB.out.mono hBw)) htl
   have HBD := hid hbd
   clear hbd hbok
   obtain ⟨st, nd⟩ := bd
   simp only at e0 e1
   go_upto_region 4 with fail
   refine code_gen (R := fun wb => Boxed ⟨a0, l0, p0⟩ ⟨a1, l1, p1⟩ ⟨some ⟨bb, bo, none⟩, l2, p2⟩ s3 s4 w wb ∧ wr.heap.size < wb.heap.size ∧ wb.cell? ⟨wr.heap.size, 0, none⟩ = some (.int .i64 st) ∧ wb.cell? ⟨wr.heap.size, 1, none⟩ = some (.int .i64 nd)) ⟨HXR.out.below (show Below wr.heap.size wr _ by go_grown), by simp, by simp, by simp⟩ ?_
   rintro wb ⟨hbox, hgl, z1, z2⟩
   have HWB := hid hbox
   obtain ⟨hltb, z0, -, -, -, -, hBb0⟩ := hbox
   have HBB := hid hBb0
   have hBb : B ≤ wb.heap.size := Nat.le_trans hBw hBb0.size
   have HNB := hid ((HN.out.rows.below (HBB.out.mono hBw)).nodes)
   generalize hgg : wr.heap.size = g at *
   clear hBb0 e0 e1 hgg HXR HB hlt
   by_cases hpl : plcN M.ns ⟨st, nd⟩
   ·have hpq := hpl
    obtain ⟨⟨hs1, hs2⟩, -, hn1, hn2⟩ := hpq
    simp only at hs1 hs2 hn1 hn2
    obtain ⟨p, rfl⟩ : ∃ p : Nat, st = p := ⟨st.toNat, by omega⟩
    obtain ⟨r, rfl⟩ : ∃ r : Nat, nd = r := ⟨nd.toNat, by omega⟩
    have HPL := hid hpl
    have hpl2 : (p : Int) < l0 := by omega
    have hrl : (r : Int) < l0 := by omega
    obtain ⟨i1, w1, b, off, hs3, rfl, hbB2, d6, d7⟩ := node_sort HNB.out (show p < l0 by omega)
    obtain ⟨i2, w2, b2, o2, hs4, e2, -, f6, f7⟩ := node_sort HNB.out (show r < l0 by omega)
    simp only [Option.some.injEq, Addr.mk.injEq, and_true] at e2
    obtain ⟨rfl, rfl⟩ := e2
    have hbw : b < wb.heap.size := Nat.lt_of_lt_of_le hbB2 hBb
    have HS3 := hid hs3
    have HS4 := hid hs4
    clear hs3 hs4 hpl hs2 hn2
    by_cases hi : i2 = i1
    ·subst hi
     by_cases hw : w2 = w1
     ·subst hw
      have HY := hid (show ∀ y, y < t + 1 → boundN M.ns (M.xs.getD y default) from fun y hy => by
       rcases Nat.lt_or_ge y t with h | h
       ·exact HNO.out y h
       ·obtain rfl : y = t := by omega
        rw [← HBD.out]; exact (boundN_iff _ _).2 ⟨HPL.out, by simp only; rw [HS3.out, HS4.out]⟩)
      refine wp_region_held_drew (S := (fun w' => w'.cell? ⟨w.heap.size, 0, none⟩ = some (.slice (some ⟨b, off, none⟩) l0 p0) ∧ w'.cell? ⟨g, 0, none⟩ = some (.int .i64 p) ∧ w'.cell? ⟨g, 1, none⟩ = some (.int .i64 r) ∧ w'.cell? ⟨b, off + p * 9 + 6, none⟩ = some (.int .i64 i2) ∧ w'.cell? ⟨b, off + p * 9 + 7, none⟩ = some (.int .i64 w2) ∧ w'.cell? ⟨b, off + r * 9 + 6, none⟩ = some (.int .i64 i2) ∧ w'.cell? ⟨b, off + r * 9 + 7, none⟩ = some (.int .i64 w2))) (by kernel_rfl) ?_ (fun hHeld => ?_)
      ·exact ⟨keepc (by go_grown) hltb z0, keepc (by go_grown) hgl z1, keepc (by go_grown) hgl z2, keepc (by go_grown) hbw d6, keepc (by go_grown) hbw d7, keepc (by go_grown) hbw f6, keepc (by go_grown) hbw f7⟩
      refine tL 0 (some 12) ?_
      refine tL 1 (some 13) ?_
      refine tL 2 (some 14) ?_
      refine wpAnyH_ready (rs := [3]) (by kernel_rfl) (by simp) ?_
      refine .cons (o := _) rfl (fun K hK => ?_) .nil
      go_simp
      refine (c_bindPlacesOk ⟨(p : Int), (r : Int)⟩ _ (Nat.le_trans hBb (by go_size)) ((HNB.out.rows.below (Below.mono (show Below wb.heap.size wb _ by go_grown) hBb)).nodes)).mono ?_; rintro e w2 ⟨hbi, hB2⟩; obtain rfl := boolIs_t HPL.out hbi; clear hbi; have hb2 : Below wb.heap.size wb w2 := bstep (by go_grown) (Nat.le_refl _) hB2; have ht2 := hb2.size; clear hB2
      (try go_wp2_with fail)
      (try clear hHeld)
      refine hK.out _ _ ?_ (fun hHeld => ?_)
      ·exact ⟨keepc (by go_grown) hltb z0, keepc (by go_grown) hgl z1, keepc (by go_grown) hgl z2, keepc (by go_grown) hbw d6, keepc (by go_grown) hbw d7, keepc (by go_grown) hbw f6, keepc (by go_grown) hbw f7⟩
      clear hK K
      (try simp only [Act.put, zq1, zq2, zq3])
      refine tL 4 (some 16) ?_
      refine tL 5 (some 17) ?_
      refine tL 6 (some 18) ?_
      refine tL 7 (some 19) ?_
      refine tL 8 (some 20) ?_
      refine tL 9 (some 21) ?_
      refine tL 10 (some 22) ?_
      refine tL 11 (some 23) ?_
      refine tL 12 (some 24) ?_
      refine tL 13 (some 25) ?_
      refine tL 14 (some 26) ?_
      refine tL 15 (some 27) ?_
      refine tL 16 (some 28) ?_
      refine tL 17 (some 29) ?_
      refine tL 18 (some 30) ?_
      refine tL 19 (some 31) ?_
      refine tL 20 (some 32) ?_
      refine tL 21 (some 33) ?_
      refine wpAnyH_done (by kernel_rfl) ?_ _
      clear hHeld
      go_wp2_with fail
      go_roundw
      case rel => exact ⟨t + 1, by omega, by go_num, HY.out, HWB.out.below (show Below wb.heap.size wb _ by go_grown)⟩
      case measure => simp [intOf] <;> omega
     ·have q1 : (w2 == w1) = false := by simpa using hw
      have HNI := hid (show ¬ boundN M.ns (M.xs.getD t default) from fun hh => by rw [← HBD.out] at hh; have h4 := ((boundN_iff _ _).1 hh).2; simp only at h4; rw [HS3.out, HS4.out] at h4; simp only [Prod.mk.injEq] at h4; exact hw h4.2.symm)
      refine wp_region_held_drew (S := (fun w' => w'.cell? ⟨w.heap.size, 0, none⟩ = some (.slice (some ⟨b, off, none⟩) l0 p0) ∧ w'.cell? ⟨g, 0, none⟩ = some (.int .i64 p) ∧ w'.cell? ⟨g, 1, none⟩ = some (.int .i64 r) ∧ w'.cell? ⟨b, off + p * 9 + 6, none⟩ = some (.int .i64 i2) ∧ w'.cell? ⟨b, off + p * 9 + 7, none⟩ = some (.int .i64 w1) ∧ w'.cell? ⟨b, off + r * 9 + 6, none⟩ = some (.int .i64 i2) ∧ w'.cell? ⟨b, off + r * 9 + 7, none⟩ = some (.int .i64 w2))) (by kernel_rfl) ?_ (fun hHeld => ?_)
      ·exact ⟨keepc (by go_grown) hltb z0, keepc (by go_grown) hgl z1, keepc (by go_grown) hgl z2, keepc (by go_grown) hbw d6, keepc (by go_grown) hbw d7, keepc (by go_grown) hbw f6, keepc (by go_grown) hbw f7⟩
      refine tL 0 (some 12) ?_
      refine tL 1 (some 13) ?_
      refine tL 2 (some 14) ?_
      refine wpAnyH_ready (rs := [3]) (by kernel_rfl) (by simp) ?_
      refine .cons (o := _) rfl (fun K hK => ?_) .nil
      go_simp
      refine (c_bindPlacesOk ⟨(p : Int), (r : Int)⟩ _ (Nat.le_trans hBb (by go_size)) ((HNB.out.rows.below (Below.mono (show Below wb.heap.size wb _ by go_grown) hBb)).nodes)).mono ?_; rintro e w2 ⟨hbi, hB2⟩; obtain rfl := boolIs_t HPL.out hbi; clear hbi; have hb2 : Below wb.heap.size wb w2 := bstep (by go_grown) (Nat.le_refl _) hB2; have ht2 := hb2.size; clear hB2
      (try go_wp2_with fail)
      (try clear hHeld)
      refine hK.out _ _ ?_ (fun hHeld => ?_)
      ·exact ⟨keepc (by go_grown) hltb z0, keepc (by go_grown) hgl z1, keepc (by go_grown) hgl z2, keepc (by go_grown) hbw d6, keepc (by go_grown) hbw d7, keepc (by go_grown) hbw f6, keepc (by go_grown) hbw f7⟩
      clear hK K
      (try simp only [Act.put, zq1, zq2, zq3])
      refine tL 4 (some 16) ?_
      refine tL 5 (some 17) ?_
      refine tL 6 (some 18) ?_
      refine tL 7 (some 19) ?_
      refine tL 8 (some 20) ?_
      refine tL 9 (some 21) ?_
      refine tL 10 (some 22) ?_
      refine tL 11 (some 23) ?_
      refine tL 12 (some 24) ?_
      refine tL 13 (some 25) ?_
      refine tL 14 (some 26) ?_
      refine tL 15 (some 27) ?_
      refine tL 16 (some 28) ?_
      refine tL 17 (some 29) ?_
      refine tL 18 (some 30) ?_
      refine tL 19 (some 31) ?_
      refine tL 20 (some 32) ?_
      refine tL 21 (some 33) ?_
      refine wpAnyH_done (by kernel_rfl) ?_ _
      clear hHeld
      go_wp2_with fail
      go_ret
      exact ⟨BoolIs.yes (fun hall => HNI.out (hall t (by omega))), HBB.out.trans (Below.mono (show Below wb.heap.size wb _ by go_grown) HBB.out.size)⟩
    ·have q1 : (i2 == i1) = false := by simpa using hi
     have HNI := hid (show ¬ boundN M.ns (M.xs.getD t default) from fun hh => by rw [← HBD.out] at hh; have h4 := ((boundN_iff _ _).1 hh).2; simp only at h4; rw [HS3.out, HS4.out] at h4; simp only [Prod.mk.injEq] at h4; exact hi h4.1.symm)
     refine wp_region_held_drew (S := (fun w' => w'.cell? ⟨w.heap.size, 0, none⟩ = some (.slice (some ⟨b, off, none⟩) l0 p0) ∧ w'.cell? ⟨g, 0, none⟩ = some (.int .i64 p) ∧ w'.cell? ⟨g, 1, none⟩ = some (.int .i64 r) ∧ w'.cell? ⟨b, off + p * 9 + 6, none⟩ = some (.int .i64 i1) ∧ w'.cell? ⟨b, off + p * 9 + 7, none⟩ = some (.int .i64 w1) ∧ w'.cell? ⟨b, off + r * 9 + 6, none⟩ = some (.int .i64 i2) ∧ w'.cell? ⟨b, off + r * 9 + 7, none⟩ = some (.int .i64 w2))) (by kernel_rfl) ?_ (fun hHeld => ?_)
     ·exact ⟨keepc (by go_grown) hltb z0, keepc (by go_grown) hgl z1, keepc (by go_grown) hgl z2, keepc (by go_grown) hbw d6, keepc (by go_grown) hbw d7, keepc (by go_grown) hbw f6, keepc (by go_grown) hbw f7⟩
     refine tL 0 (some 12) ?_
     refine tL 1 (some 13) ?_
     refine tL 2 (some 14) ?_
     refine wpAnyH_ready (rs := [3]) (by kernel_rfl) (by simp) ?_
     refine .cons (o := _) rfl (fun K hK => ?_) .nil
     go_simp
     refine (c_bindPlacesOk ⟨(p : Int), (r : Int)⟩ _ (Nat.le_trans hBb (by go_size)) ((HNB.out.rows.below (Below.mono (show Below wb.heap.size wb _ by go_grown) hBb)).nodes)).mono ?_; rintro e w2 ⟨hbi, hB2⟩; obtain rfl := boolIs_t HPL.out hbi; clear hbi; have hb2 : Below wb.heap.size wb w2 := bstep (by go_grown) (Nat.le_refl _) hB2; have ht2 := hb2.size; clear hB2
     (try go_wp2_with fail)
     (try clear hHeld)
     refine hK.out _ _ ?_ (fun hHeld => ?_)
     ·exact ⟨keepc (by go_grown) hltb z0, keepc (by go_grown) hgl z1, keepc (by go_grown) hgl z2, keepc (by go_grown) hbw d6, keepc (by go_grown) hbw d7, keepc (by go_grown) hbw f6, keepc (by go_grown) hbw f7⟩
     clear hK K
     (try simp only [Act.put, zq1, zq2, zq3])
     refine tL 4 (some 16) ?_
     refine tL 5 (some 17) ?_
     refine tL 6 (some 18) ?_
     refine tL 7 (some 19) ?_
     refine tL 8 (some 20) ?_
     refine tL 9 (some 21) ?_
     refine tL 10 (some 22) ?_
     refine tL 11 (some 23) ?_
     refine tL 12 (some 24) ?_
     refine tL 13 (some 25) ?_
     refine tL 14 (some 26) ?_
     refine tL 15 (some 27) ?_
     refine tL 16 (some 28) ?_
     refine tL 17 (some 29) ?_
     refine tL 18 (some 30) ?_
     refine tL 19 (some 31) ?_
     refine tL 20 (some 32) ?_
     refine tL 21 (some 33) ?_
     refine wpAnyH_done (by kernel_rfl) ?_ _
     clear hHeld
     go_wp2_with fail
     go_ret
     exact ⟨BoolIs.yes (fun hall => HNI.out (hall t (by omega))), HBB.out.trans (Below.mono (show Below wb.heap.size wb _ by go_grown) HBB.out.size)⟩
   ·have HPL := hid hpl
    have HNI := hid (show ¬ boundN M.ns (M.xs.getD t default) from fun hh => by rw [← HBD.out] at hh; exact HPL.out ((boundN_iff _ _).1 hh).1)
    clear hpl
    refine wp_region_held_drew (S := (fun w' => w'.cell? ⟨w.heap.size, 0, none⟩ = some (.slice a0 l0 p0) ∧ w'.cell? ⟨g, 0, none⟩ = some (.int .i64 st) ∧ w'.cell? ⟨g, 1, none⟩ = some (.int .i64 nd))) (by kernel_rfl) ?_ (fun hHeld => ?_)
    ·exact ⟨keepc (by go_grown) hltb z0, keepc (by go_grown) hgl z1, keepc (by go_grown) hgl z2⟩
    refine tL 0 (some 12) ?_
    refine tL 1 (some 13) ?_
    refine tL 2 (some 14) ?_
    refine wpAnyH_ready (rs := [3]) (by kernel_rfl) (by simp) ?_
    refine .cons (o := _) rfl (fun K hK => ?_) .nil
    go_simp
    refine (c_bindPlacesOk ⟨st, nd⟩ _ (Nat.le_trans hBb (by go_size)) ((HNB.out.rows.below (Below.mono (show Below wb.heap.size wb _ by go_grown) hBb)).nodes)).mono ?_; rintro e w2 ⟨hbi, hB2⟩; obtain rfl := boolIs_f HPL.out hbi; clear hbi; have hb2 : Below wb.heap.size wb w2 := bstep (by go_grown) (Nat.le_refl _) hB2; have ht2 := hb2.size; clear hB2
    (try go_wp2_with fail)
    (try clear hHeld)
    refine hK.out _ _ ?_ (fun hHeld => ?_)
    ·exact ⟨keepc (by go_grown) hltb z0, keepc (by go_grown) hgl z1, keepc (by go_grown) hgl z2⟩
    clear hK K
    (try simp only [Act.put, zq1, zq2, zq3])
    refine tL 4 (some 16) ?_
    refine tL 5 (some 17) ?_
    refine tU 6 (some 18) ?_
    refine tU 7 (some 19) ?_
    refine tU 8 (some 20) ?_
    refine tU 9 (some 21) ?_
    refine tU 10 (some 22) ?_
    refine tU 11 (some 23) ?_
    refine tU 12 (some 24) ?_
    refine tU 13 (some 25) ?_
    refine tU 14 (some 26) ?_
    refine tU 15 (some 27) ?_
    refine tU 16 (some 28) ?_
    refine tU 17 (some 29) ?_
    refine tU 18 (some 30) ?_
    refine tU 19 (some 31) ?_
    refine tU 20 (some 32) ?_
    refine tL 21 (some 33) ?_
    refine wpAnyH_done (by kernel_rfl) ?_ _
    clear hHeld
    go_wp2_with fail
    go_ret
    exact ⟨BoolIs.yes (fun hall => HNI.out (hall t (by omega))), HBB.out.trans (Below.mono (show Below wb.heap.size wb _ by go_grown) HBB.out.size)⟩
  ·have hti : ¬ (t : Int) < l2 := by omega
   go_wp2_with fail
   go_ret
   exact ⟨BoolIs.no (fun hh => hh (fun y hy => HNO.out y (by omega))), HB.out⟩
set_option maxHeartbeats 8000000 in
theorem c_hasBadInit {B : Nat} {s0 s1 s2 s3 s4 : SL} {M : MD} (w : World) (hBw : B ≤ w.heap.size) (h : ModelAt B w s0 s1 s2 s3 s4 M) (hg : nodesGood M.ns) (h60 : s0.len ≤ 60) :
  Calls Tryz.prog 143 #[.agg (mcells s0 s1 s2 s3 s4).toArray] w fun e w' => BoolIs (¬ initsOk M) e ∧ Below w.heap.size w w' := by
 have HMA := hid h
 have HN := hid h.ns
 have HI := hid h.is
 have hl0 : M.ns.length = s0.len := h.ns.1
 have hll : M.is.length = s1.len := h.is.1
 have hm1 := Nat.le_trans h.is.2.1 h.is.2.2.1
 unfold maxLen at hm1
 have HGD := hid hg
 clear h hg
 obtain ⟨a0, l0, p0⟩ := s0
 obtain ⟨a1, l1, p1⟩ := s1
 obtain ⟨a2, l2, p2⟩ := s2
 simp only [mcells] at *
 go_enter Tryz.func143, Tryz.ntmps143
 go_wp2_with fail
 go_loopw [8] (fun i wr => ∃ t : Nat, t ≤ l1 ∧ i = .int .i64 t ∧ (∀ y, y < t → initN M.ns (M.is.getD y default)) ∧ Boxed ⟨a0, l0, p0⟩ ⟨a1, l1, p1⟩ ⟨a2, l2, p2⟩ s3 s4 w wr) (fun i _ => l1 - (intOf i).toNat)
 case atStart => exact ⟨0, by omega, rfl, fun t h => by omega, Boxed.new _ _ _ _ _ _ _⟩
 case round =>
  obtain ⟨t, ht, rfl, hno, HX0⟩ := hrel
  have HNO := hid hno
  have HXR := hid HX0
  obtain ⟨hlt, -, -, -, -, -, hBk⟩ := HX0
  have HB := hid hBk
  clear hno hBk
  by_cases htl : t < l1
  ·have hti : (t : Int) < l1 := by omega
   obtain ⟨bd, bb, bo, hbd, hbok, rfl, hbB, e0, e1⟩ := bind_at (HI.out.below (HB.out.mono hBw)) htl
   have HBD := hid hbd
   clear hbd hbok
   obtain ⟨st, nd⟩ := bd
   simp only at e0 e1
   go_upto_region 4 with fail
   refine code_gen (R := fun wb => Boxed ⟨a0, l0, p0⟩ ⟨some ⟨bb, bo, none⟩, l1, p1⟩ ⟨a2, l2, p2⟩ s3 s4 w wb ∧ wr.heap.size < wb.heap.size ∧ wb.cell? ⟨wr.heap.size, 0, none⟩ = some (.int .i64 st) ∧ wb.cell? ⟨wr.heap.size, 1, none⟩ = some (.int .i64 nd)) ⟨HXR.out.below (show Below wr.heap.size wr _ by go_grown), by simp, by simp, by simp⟩ ?_
   rintro wb ⟨hbox, hgl, z1, z2⟩
   have HWB := hid hbox
   obtain ⟨hltb, z0, -, -, -, -, hBb0⟩ := hbox
   have HBB := hid hBb0
   have hBb : B ≤ wb.heap.size := Nat.le_trans hBw hBb0.size
   have HNB := hid ((HN.out.rows.below (HBB.out.mono hBw)).nodes)
   generalize hgg : wr.heap.size = g at *
   clear hBb0 e0 e1 hgg HXR HB hlt
   go_wp2_with fail
   refine (c_bindPlacesOk ⟨st, nd⟩ wb hBb HNB.out).mono ?_
   rintro e w1 ⟨hb1, hB1⟩
   have HW1 := hid (HWB.out.below hB1)
   have y0 := keepc hB1 hltb z0
   have y1 := keepc hB1 hgl z1
   have y2 := keepc hB1 hgl z2
   have hg1 := Nat.lt_of_lt_of_le hgl hB1.size
   have hl1 := Nat.lt_of_lt_of_le hltb hB1.size
   have hB1b : B ≤ w1.heap.size := Nat.le_trans hBb hB1.size
   have HN1 := hid ((HNB.out.rows.below (hB1.mono hBb)).nodes)
   clear hB1 z0 z1 z2
   by_cases hpl : plcN M.ns ⟨st, nd⟩
   ·obtain rfl := boolIs_t hpl hb1
    clear hb1
    have HPL := hid hpl
    obtain ⟨⟨hs1, hs2⟩, -, hn1, hn2⟩ := hpl
    simp only at hs1 hs2 hn1 hn2
    obtain ⟨p, rfl⟩ : ∃ p : Nat, st = p := ⟨st.toNat, by omega⟩
    obtain ⟨r, rfl⟩ : ∃ r : Nat, nd = r := ⟨nd.toNat, by omega⟩
    go_wp2_with fail
    refine (c_initSortOk p r w1 hB1b HN1.out (by omega) (by omega)).mono ?_
    rintro e w2 ⟨hb2, hB2⟩
    have HW2 := hid (HW1.out.below hB2)
    have x0 := keepc hB2 hl1 y0
    have x1 := keepc hB2 hg1 y1
    have x2 := keepc hB2 hg1 y2
    have hB2b : B ≤ w2.heap.size := Nat.le_trans hB1b hB2.size
    have HN2 := hid ((HN1.out.rows.below (hB2.mono hB1b)).nodes)
    clear hB2 y0 y1 y2
    by_cases his : isrtN M.ns p r
    ·obtain rfl := boolIs_t his hb2
     have HIS := hid his
     clear hb2 his
     go_wp2_with fail
     refine (c_hangsOnRun r w2 hB2b HN2.out HGD.out h60 (by omega)).mono ?_
     rintro e w3 ⟨hb3, hB3⟩
     have HW3 := hid (HW2.out.below hB3)
     clear hB3 x0 x1 x2
     by_cases hfx : fixedN M.ns r
     ·obtain rfl := boolIs_f (fun h => h hfx) hb3
      clear hb3
      have HY := hid (show ∀ y, y < t + 1 → initN M.ns (M.is.getD y default) from fun y hy => by
       rcases Nat.lt_or_ge y t with h | h
       ·exact HNO.out y h
       ·obtain rfl : y = t := by omega
        rw [← HBD.out]; exact (initN_iff _ _ _).2 ⟨HPL.out, HIS.out, hfx⟩)
      clear hfx
      go_wp2_with fail
      go_roundw
      case rel => exact ⟨t + 1, by omega, by go_num, HY.out, HW3.out⟩
      case measure => simp [intOf] <;> omega
     ·obtain rfl := boolIs_t (P := ¬ fixedN M.ns r) hfx hb3
      clear hb3
      have HNI := hid (show ¬ initN M.ns (M.is.getD t default) from fun hh => by rw [← HBD.out] at hh; exact hfx ((initN_iff _ _ _).1 hh).2.2)
      clear hfx
      go_wp2_with fail
      go_ret
      exact ⟨BoolIs.yes (fun hall => HNI.out (hall t (by omega))), HW3.out.2.2.2.2.2.2⟩
    ·obtain rfl := boolIs_f his hb2
     clear hb2
     have HNI := hid (show ¬ initN M.ns (M.is.getD t default) from fun hh => by rw [← HBD.out] at hh; exact his ((initN_iff _ _ _).1 hh).2.1)
     clear his
     go_wp2_with fail
     go_ret
     exact ⟨BoolIs.yes (fun hall => HNI.out (hall t (by omega))), HW2.out.2.2.2.2.2.2⟩
   ·obtain rfl := boolIs_f hpl hb1
    clear hb1
    have HNI := hid (show ¬ initN M.ns (M.is.getD t default) from fun hh => by rw [← HBD.out] at hh; exact hpl (initN_plc hh))
    clear hpl
    go_wp2_with fail
    go_ret
    exact ⟨BoolIs.yes (fun hall => HNI.out (hall t (by omega))), HW1.out.2.2.2.2.2.2⟩
  ·have hti : ¬ (t : Int) < l1 := by omega
   go_wp2_with fail
   go_ret
   exact ⟨BoolIs.no (fun hh => hh (fun y hy => HNO.out y (by omega))), HB.out⟩
end Go.Proofs.YtlcgimadbpagfaaGreat
