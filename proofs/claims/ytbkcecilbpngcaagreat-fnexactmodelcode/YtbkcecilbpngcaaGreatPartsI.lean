/-
  Whether a node's parts are right: the program.
-/
import Derived.Test.YtbkcecilbpngcaaGreatRows
import Derived.Test.YtbkcecilbpngcaaGreatPaA
import Derived.Test.YtbkcecilbpngcaaGreatNodeM
import Derived.Test.YtbkcecilbpngcaaGreatNames
import Derived.Test.YtbkcecilbpngcaaGreatFieldsS
import Derived.Test.YtbkcecilbpngcaaGreatNodeL
import Derived.Test.YtbkcecilbpngcaaGreatResP
import Derived.Test.YtbkcecilbpngcaaGreatNSortI
import Derived.WalkKit
import Derived.ProofKit
import Derived.OpenShut
import Derived.WalkSpells
import Derived.WalkLawsBesides
import Derived.Outline
import Derived.BigQuiet
import Derived.Handy
import Derived.LoopTactic
import Derived.Deep.Light
import Derived.Deep.RegionWith
import Derived.Deep.RegionHeld3
import Derived.Deep.QuietTactic
import Derived.Lib.Hide
namespace Go.Proofs.YtbkcecilbpngcaaGreat
open Go.ChangeShapes Go.WideShapes Go.ChangeAt Go.RowKit
set_option linter.unusedVariables false

/-- All parts stand ahead and have sorts. -/
def prtOk (ns : List ND) (x : ND) : Prop := 0 ≤ pcN x.kind ∧ ptsOk ns.length x ∧ pssOk ns x
instance (ns : List ND) (x : ND) : Decidable (prtOk ns x) := by unfold prtOk; infer_instance
theorem prt_no {ns : List ND} {x : ND} (q : Nat) (hq : q ≤ 2) (h : ¬ (ptOk ns.length x q ∧ psOk ns x q)) : decide (prtOk ns x) = false := by
  refine decide_eq_false fun ⟨_, ⟨h0, h1, h2⟩, ⟨s0, s1, s2⟩⟩ => h ?_
  rcases (by omega : q = 0 ∨ q = 1 ∨ q = 2) with rfl | rfl | rfl
  · exact ⟨h0, s0⟩
  · exact ⟨h1, s1⟩
  · exact ⟨h2, s2⟩
theorem pcI_lt (k : Int) (t : Nat) : (t : Int) < pcI k ↔ (t : Int) < pcN k := by unfold pcI; split <;> omega
def Upto (ns : List ND) (x : ND) (w : World) (i : Value) (wr : World) : Prop := ∃ j : Int, 0 ≤ j ∧ j ≤ 3 ∧ i = .int .i64 j ∧ (∀ t : Nat, (t : Int) < j → ptOk ns.length x t ∧ psOk ns x t) ∧ Below w.heap.size w wr
theorem upto_next {ns : List ND} {x : ND} {j : Int} (q : Nat) (hq : j = q) (h : ∀ t : Nat, (t : Int) < j → ptOk ns.length x t ∧ psOk ns x t) (hj : ptOk ns.length x q ∧ psOk ns x q) : ∀ t : Nat, (t : Int) < j + 1 → ptOk ns.length x t ∧ psOk ns x t := by
  intro t ht
  by_cases e : t = q
  · subst e; exact hj
  · exact h t (by omega)
theorem nd_in {B : Nat} {w : World} {a : Option Addr} {len cap : Nat} {ns : List ND} (h : NodesAt B w a len cap ns) (h0 : 0 < len) :
    ∃ b off, a = some ⟨b, off, none⟩ ∧ b < B ∧ ∀ p : Int, 0 ≤ p → p < len → w.cell? ⟨b, off + p.toNat * 9 + 6, none⟩ = some (.int .i64 (sortAt ns p).1) ∧ w.cell? ⟨b, off + p.toNat * 9 + 7, none⟩ = some (.int .i64 (sortAt ns p).2) := by
  obtain ⟨hl, -, -, -, -, h6⟩ := h
  rcases h6 with h6 | ⟨b, off, rfl, hb, hc⟩
  · omega
  · refine ⟨b, off, rfl, hb, fun p p0 p1 => ?_⟩
    have hp : p.toNat < ns.length := by omega
    have e : ns.getD p.toNat default = ns[p.toNat] := by simp [List.getD_eq_getElem?_getD, List.getElem?_eq_getElem hp]
    unfold sortAt; rw [e]
    exact ⟨hc p.toNat hp 6 (by omega), hc p.toNat hp 7 (by omega)⟩

set_option maxRecDepth 100000 in
set_option maxHeartbeats 8000000 in
theorem c_partsOk {B : Nat} {a : Option Addr} {len cap : Nat} {ns : List ND} (x : ND) (w : World) (hBw : B ≤ w.heap.size) (h : NodesAt B w a len cap ns) :
    Calls Tryz.prog 94 #[.slice a len cap, .agg x.cells.toArray] w fun e w' => e = .returned (.bool (decide (prtOk ns x))) ∧ Below w.heap.size w w' := by
  have hm : len ≤ maxLen := Nat.le_trans h.2.1 h.2.2.1
  have hlen : ns.length = len := h.1
  have HLEN := Go.Lib.hid hlen
  have HN := Go.Lib.hid h
  clear h hlen
  have Hm := Go.Lib.hid hm
  unfold maxLen at hm
  obtain ⟨k, pa, pb, pc, n, m, si, sw, nm⟩ := x
  simp only [ND.cells] at *
  have ix0 : ∀ w, (Instr.index 132 (.agg #[.int .i64 pa, .int .i64 pb, .int .i64 pc]) (.int .i64 0)).run Tryz.prog w = .ok (.int .i64 pa) w := fun _ => by kernel_rfl
  have ix1 : ∀ w, (Instr.index 132 (.agg #[.int .i64 pa, .int .i64 pb, .int .i64 pc]) (.int .i64 1)).run Tryz.prog w = .ok (.int .i64 pb) w := fun _ => by kernel_rfl
  have ix2 : ∀ w, (Instr.index 132 (.agg #[.int .i64 pa, .int .i64 pb, .int .i64 pc]) (.int .i64 2)).run Tryz.prog w = .ok (.int .i64 pc) w := fun _ => by kernel_rfl
  go_enter Tryz.func94, Tryz.ntmps94
  go_wp2_with (first | (go_at_call 86; refine (c_partCount _ _).mono ?_; rintro e w' ⟨rfl, rfl⟩))
  go_loopw [22] (fun i wr => Upto ns ⟨k, pa, pb, pc, n, m, si, sw, nm⟩ w i wr) (fun i _ => (3 - intOf i).toNat)
  case atStart => exact ⟨0, by omega, by omega, rfl, fun t ht => by omega, by go_grown⟩
  case round =>
    obtain ⟨j, hj0, hj3, rfl, hu, hBr⟩ := hrel
    have HU := Go.Lib.hid hu
    have HBr := Go.Lib.hid hBr
    clear hu hBr
    rcases (by omega : j = 0 ∨ j = 1 ∨ j = 2 ∨ j = 3) with rfl | rfl | rfl | rfl
    · by_cases hlt : (0 : Int) < pcI k
      · have HLT := Go.Lib.hid ((pcI_lt k 0).mp hlt)
        have d1 : decide (pcI k ≤ 0) = false := by simp; omega
        by_cases hin : 0 ≤ pa ∧ pa < len
        · have HIN := Go.Lib.hid hin
          obtain ⟨i1, i2⟩ := hin
          have hin' : decide (0 ≤ pa ∧ pa < (len : Int)) = true := decide_eq_true ⟨i1, i2⟩
          obtain ⟨b, off, rfl, hb, hn⟩ := nd_in HN.out (by omega)
          obtain ⟨n6, n7⟩ := hn pa i1 i2
          have c6 := (HBr.out.cell (p := ⟨b, off + pa.toNat * 9 + 6, none⟩) (by show b < _; omega)).trans n6
          have c7 := (HBr.out.cell (p := ⟨b, off + pa.toNat * 9 + 7, none⟩) (by show b < _; omega)).trans n7
          have HS := Go.Lib.hid (show srt ns ⟨k, pa, pb, pc, n, m, si, sw, nm⟩ 0 = sortAt ns pa by unfold srt; rw [if_pos HLT.out]; rfl)
          obtain ⟨q1, q2, hq⟩ : ∃ q1 q2, sortAt ns pa = (q1, q2) := ⟨_, _, rfl⟩
          rw [hq] at c6 c7
          have HQ := Go.Lib.hid hq
          clear hq n6 n7 hn
          simp only at c6 c7
          by_cases hsk : SOK q1 q2
          · have hsk' : decide (SOK q1 q2) = true := decide_eq_true hsk
            have HSK : Hid (SOK q1 q2) := hsk
            clear hsk
            go_wp2_with (first | (go_at_call 70; refine (c_placeOk Hm.out _ _).mono ?_; rintro e w' ⟨rfl, rfl⟩))
            refine (c_SortOkI _ _ _).mono ?_
            rintro e w2 ⟨rfl, hB2⟩
            have HB2 := Go.Lib.hid (bstep HBr.out (Nat.le_refl _) hB2)
            clear hB2 c6 c7
            go_wp2
            go_roundw
            case rel => exact ⟨0 + 1, by omega, by omega, rfl, upto_next 0 rfl HU.out ⟨by rw [HLEN.out]; exact pt_in HLT.out i1 i2, fun _ => by rw [HS.out, HQ.out]; exact HSK.out⟩, HB2.out⟩
            case measure => simp [intOf]
          · have hsk' : decide (SOK q1 q2) = false := decide_eq_false hsk
            have HSK : Hid (¬ SOK q1 q2) := hsk
            clear hsk
            go_wp2_with (first | (go_at_call 70; refine (c_placeOk Hm.out _ _).mono ?_; rintro e w' ⟨rfl, rfl⟩))
            refine (c_SortOkI _ _ _).mono ?_
            rintro e w2 ⟨rfl, hB2⟩
            have HB2 := Go.Lib.hid (bstep HBr.out (Nat.le_refl _) hB2)
            clear hB2 c6 c7
            go_wp2
            go_ret
            exact ⟨ret_bool (prt_no 0 (by omega) (fun h => HSK.out (by have := h.2 HLT.out; rw [HS.out, HQ.out] at this; exact this))).symm, HB2.out⟩
        · have hin' : decide (0 ≤ pa ∧ pa < (len : Int)) = false := decide_eq_false hin
          have HIN := Go.Lib.hid hin
          clear hin
          go_wp2_with (first | (go_at_call 70; refine (c_placeOk Hm.out _ _).mono ?_; rintro e w' ⟨rfl, rfl⟩))
          go_ret
          exact ⟨ret_bool (prt_no 0 (by omega) (fun h => HIN.out (by have := h.1; unfold ptOk at this; rw [if_pos HLT.out, HLEN.out] at this; exact this))).symm, HBr.out⟩
      · have d0 : decide ((0 : Int) < pcI k) = false := by simpa using hlt
        have HLT := Go.Lib.hid (fun h => hlt ((pcI_lt k 0).mpr h))
        have d1 : pcI k ≤ 0 := by omega
        clear hlt
        by_cases hz : pa = 0
        · have z1 : (pa != 0) = false := by simpa using hz
          have HZ := Go.Lib.hid hz
          clear hz
          go_wp2
          go_roundw
          case rel => exact ⟨0 + 1, by omega, by omega, rfl, upto_next 0 rfl HU.out ⟨pt_zero HLT.out HZ.out, fun h => absurd h HLT.out⟩, HBr.out⟩
          case measure => simp [intOf]
        · have z1 : (pa != 0) = true := by simpa using hz
          have HZ := Go.Lib.hid hz
          clear hz
          go_wp2
          go_ret
          exact ⟨ret_bool (prt_no 0 (by omega) (fun h => pt_nonzero (x := ⟨k, pa, pb, pc, n, m, si, sw, nm⟩) HLT.out HZ.out h.1)).symm, HBr.out⟩
    · by_cases hlt : (1 : Int) < pcI k
      · have HLT := Go.Lib.hid ((pcI_lt k 1).mp hlt)
        have d1 : decide (pcI k ≤ 1) = false := by simp; omega
        by_cases hin : 0 ≤ pb ∧ pb < len
        · have HIN := Go.Lib.hid hin
          obtain ⟨i1, i2⟩ := hin
          have hin' : decide (0 ≤ pb ∧ pb < (len : Int)) = true := decide_eq_true ⟨i1, i2⟩
          obtain ⟨b, off, rfl, hb, hn⟩ := nd_in HN.out (by omega)
          obtain ⟨n6, n7⟩ := hn pb i1 i2
          have c6 := (HBr.out.cell (p := ⟨b, off + pb.toNat * 9 + 6, none⟩) (by show b < _; omega)).trans n6
          have c7 := (HBr.out.cell (p := ⟨b, off + pb.toNat * 9 + 7, none⟩) (by show b < _; omega)).trans n7
          have HS := Go.Lib.hid (show srt ns ⟨k, pa, pb, pc, n, m, si, sw, nm⟩ 1 = sortAt ns pb by unfold srt; rw [if_pos HLT.out]; rfl)
          obtain ⟨q1, q2, hq⟩ : ∃ q1 q2, sortAt ns pb = (q1, q2) := ⟨_, _, rfl⟩
          rw [hq] at c6 c7
          have HQ := Go.Lib.hid hq
          clear hq n6 n7 hn
          simp only at c6 c7
          by_cases hsk : SOK q1 q2
          · have hsk' : decide (SOK q1 q2) = true := decide_eq_true hsk
            have HSK : Hid (SOK q1 q2) := hsk
            clear hsk
            go_wp2_with (first | (go_at_call 70; refine (c_placeOk Hm.out _ _).mono ?_; rintro e w' ⟨rfl, rfl⟩))
            refine (c_SortOkI _ _ _).mono ?_
            rintro e w2 ⟨rfl, hB2⟩
            have HB2 := Go.Lib.hid (bstep HBr.out (Nat.le_refl _) hB2)
            clear hB2 c6 c7
            go_wp2
            go_roundw
            case rel => exact ⟨1 + 1, by omega, by omega, rfl, upto_next 1 rfl HU.out ⟨by rw [HLEN.out]; exact pt_in HLT.out i1 i2, fun _ => by rw [HS.out, HQ.out]; exact HSK.out⟩, HB2.out⟩
            case measure => simp [intOf]
          · have hsk' : decide (SOK q1 q2) = false := decide_eq_false hsk
            have HSK : Hid (¬ SOK q1 q2) := hsk
            clear hsk
            go_wp2_with (first | (go_at_call 70; refine (c_placeOk Hm.out _ _).mono ?_; rintro e w' ⟨rfl, rfl⟩))
            refine (c_SortOkI _ _ _).mono ?_
            rintro e w2 ⟨rfl, hB2⟩
            have HB2 := Go.Lib.hid (bstep HBr.out (Nat.le_refl _) hB2)
            clear hB2 c6 c7
            go_wp2
            go_ret
            exact ⟨ret_bool (prt_no 1 (by omega) (fun h => HSK.out (by have := h.2 HLT.out; rw [HS.out, HQ.out] at this; exact this))).symm, HB2.out⟩
        · have hin' : decide (0 ≤ pb ∧ pb < (len : Int)) = false := decide_eq_false hin
          have HIN := Go.Lib.hid hin
          clear hin
          go_wp2_with (first | (go_at_call 70; refine (c_placeOk Hm.out _ _).mono ?_; rintro e w' ⟨rfl, rfl⟩))
          go_ret
          exact ⟨ret_bool (prt_no 1 (by omega) (fun h => HIN.out (by have := h.1; unfold ptOk at this; rw [if_pos HLT.out, HLEN.out] at this; exact this))).symm, HBr.out⟩
      · have d0 : decide ((1 : Int) < pcI k) = false := by simpa using hlt
        have HLT := Go.Lib.hid (fun h => hlt ((pcI_lt k 1).mpr h))
        have d1 : pcI k ≤ 1 := by omega
        clear hlt
        by_cases hz : pb = 0
        · have z1 : (pb != 0) = false := by simpa using hz
          have HZ := Go.Lib.hid hz
          clear hz
          go_wp2
          go_roundw
          case rel => exact ⟨1 + 1, by omega, by omega, rfl, upto_next 1 rfl HU.out ⟨pt_zero HLT.out HZ.out, fun h => absurd h HLT.out⟩, HBr.out⟩
          case measure => simp [intOf]
        · have z1 : (pb != 0) = true := by simpa using hz
          have HZ := Go.Lib.hid hz
          clear hz
          go_wp2
          go_ret
          exact ⟨ret_bool (prt_no 1 (by omega) (fun h => pt_nonzero (x := ⟨k, pa, pb, pc, n, m, si, sw, nm⟩) HLT.out HZ.out h.1)).symm, HBr.out⟩
    · by_cases hlt : (2 : Int) < pcI k
      · have HLT := Go.Lib.hid ((pcI_lt k 2).mp hlt)
        have d1 : decide (pcI k ≤ 2) = false := by simp; omega
        by_cases hin : 0 ≤ pc ∧ pc < len
        · have HIN := Go.Lib.hid hin
          obtain ⟨i1, i2⟩ := hin
          have hin' : decide (0 ≤ pc ∧ pc < (len : Int)) = true := decide_eq_true ⟨i1, i2⟩
          obtain ⟨b, off, rfl, hb, hn⟩ := nd_in HN.out (by omega)
          obtain ⟨n6, n7⟩ := hn pc i1 i2
          have c6 := (HBr.out.cell (p := ⟨b, off + pc.toNat * 9 + 6, none⟩) (by show b < _; omega)).trans n6
          have c7 := (HBr.out.cell (p := ⟨b, off + pc.toNat * 9 + 7, none⟩) (by show b < _; omega)).trans n7
          have HS := Go.Lib.hid (show srt ns ⟨k, pa, pb, pc, n, m, si, sw, nm⟩ 2 = sortAt ns pc by unfold srt; rw [if_pos HLT.out]; rfl)
          obtain ⟨q1, q2, hq⟩ : ∃ q1 q2, sortAt ns pc = (q1, q2) := ⟨_, _, rfl⟩
          rw [hq] at c6 c7
          have HQ := Go.Lib.hid hq
          clear hq n6 n7 hn
          simp only at c6 c7
          by_cases hsk : SOK q1 q2
          · have hsk' : decide (SOK q1 q2) = true := decide_eq_true hsk
            have HSK : Hid (SOK q1 q2) := hsk
            clear hsk
            go_wp2_with (first | (go_at_call 70; refine (c_placeOk Hm.out _ _).mono ?_; rintro e w' ⟨rfl, rfl⟩))
            refine (c_SortOkI _ _ _).mono ?_
            rintro e w2 ⟨rfl, hB2⟩
            have HB2 := Go.Lib.hid (bstep HBr.out (Nat.le_refl _) hB2)
            clear hB2 c6 c7
            go_wp2
            go_roundw
            case rel => exact ⟨2 + 1, by omega, by omega, rfl, upto_next 2 rfl HU.out ⟨by rw [HLEN.out]; exact pt_in HLT.out i1 i2, fun _ => by rw [HS.out, HQ.out]; exact HSK.out⟩, HB2.out⟩
            case measure => simp [intOf]
          · have hsk' : decide (SOK q1 q2) = false := decide_eq_false hsk
            have HSK : Hid (¬ SOK q1 q2) := hsk
            clear hsk
            go_wp2_with (first | (go_at_call 70; refine (c_placeOk Hm.out _ _).mono ?_; rintro e w' ⟨rfl, rfl⟩))
            refine (c_SortOkI _ _ _).mono ?_
            rintro e w2 ⟨rfl, hB2⟩
            have HB2 := Go.Lib.hid (bstep HBr.out (Nat.le_refl _) hB2)
            clear hB2 c6 c7
            go_wp2
            go_ret
            exact ⟨ret_bool (prt_no 2 (by omega) (fun h => HSK.out (by have := h.2 HLT.out; rw [HS.out, HQ.out] at this; exact this))).symm, HB2.out⟩
        · have hin' : decide (0 ≤ pc ∧ pc < (len : Int)) = false := decide_eq_false hin
          have HIN := Go.Lib.hid hin
          clear hin
          go_wp2_with (first | (go_at_call 70; refine (c_placeOk Hm.out _ _).mono ?_; rintro e w' ⟨rfl, rfl⟩))
          go_ret
          exact ⟨ret_bool (prt_no 2 (by omega) (fun h => HIN.out (by have := h.1; unfold ptOk at this; rw [if_pos HLT.out, HLEN.out] at this; exact this))).symm, HBr.out⟩
      · have d0 : decide ((2 : Int) < pcI k) = false := by simpa using hlt
        have HLT := Go.Lib.hid (fun h => hlt ((pcI_lt k 2).mpr h))
        have d1 : pcI k ≤ 2 := by omega
        clear hlt
        by_cases hz : pc = 0
        · have z1 : (pc != 0) = false := by simpa using hz
          have HZ := Go.Lib.hid hz
          clear hz
          go_wp2
          go_roundw
          case rel => exact ⟨2 + 1, by omega, by omega, rfl, upto_next 2 rfl HU.out ⟨pt_zero HLT.out HZ.out, fun h => absurd h HLT.out⟩, HBr.out⟩
          case measure => simp [intOf]
        · have z1 : (pc != 0) = true := by simpa using hz
          have HZ := Go.Lib.hid hz
          clear hz
          go_wp2
          go_ret
          exact ⟨ret_bool (prt_no 2 (by omega) (fun h => pt_nonzero (x := ⟨k, pa, pb, pc, n, m, si, sw, nm⟩) HLT.out HZ.out h.1)).symm, HBr.out⟩
    · go_wp2
      go_ret
      refine ⟨ret_bool ?_, HBr.out⟩
      apply dec_iff
      have h0 := HU.out 0 (by omega)
      have h1 := HU.out 1 (by omega)
      have h2 := HU.out 2 (by omega)
      exact ⟨fun h => ⟨h, ⟨h0.1, h1.1, h2.1⟩, ⟨h0.2, h1.2, h2.2⟩⟩, fun h => h.1⟩
end Go.Proofs.YtbkcecilbpngcaaGreat
