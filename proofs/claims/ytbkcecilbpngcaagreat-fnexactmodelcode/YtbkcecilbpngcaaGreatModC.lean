/-
  A name or a state twice: the model.
-/
import Derived.Test.YtbkcecilbpngcaaGreatRows
import Derived.Test.YtbkcecilbpngcaaGreatPaA
import Derived.Test.YtbkcecilbpngcaaGreatNodeL
import Derived.Test.YtbkcecilbpngcaaGreatModD
import Derived.Test.YtbkcecilbpngcaaGreatModA
import Derived.Test.YtbkcecilbpngcaaGreatModB
import Derived.WalkKit
import Derived.ProofKit
import Derived.OpenShut
import Derived.WalkSpells
import Derived.WalkLawsBesides
import Derived.Outline
import Derived.BigQuiet
import Derived.Handy
import Derived.LoopTactic
import Derived.Deep.Light
import Derived.Deep.RegionWith
import Derived.Deep.RegionHeld3
import Derived.Deep.DeepCutAuto
import Derived.Lib.Hide
namespace Go.Proofs.YtbkcecilbpngcaaGreat
open Go.ChangeShapes Go.WideShapes Go.ChangeAt Go.RowKit
set_option linter.unusedVariables false
set_option maxRecDepth 100000


def nmAt (ns : List ND) (i : Nat) : List UInt8 := (ns.getD i default).name.toList
/-- Two nodes have one name. -/
def namesTwice (ns : List ND) : Prop := ∃ x y, y < x ∧ x < ns.length ∧ nmAt ns x ≠ [] ∧ nmAt ns x = nmAt ns y
def twiceN (M : MD) : Prop := namesTwice M.ns ∨ againN M.is ∨ againN M.xs
theorem node_name {B : Nat} {w : World} {a : Option Addr} {len cap k : Nat} {ns : List ND} (h : NodesAt B w a len cap ns) (hk : k < len) :
    ∃ (nm : ByteArray) (b off : Nat), nmAt ns k = nm.toList ∧ a = some ⟨b, off, none⟩ ∧ b < B ∧ w.cell? ⟨b, off + k * 9 + 8, none⟩ = some (.string nm) := by
  obtain ⟨nd, hk', b, off, hnd, hok, ha, hbB, hc⟩ := node_at h hk
  have hg : ns.getD k default = ns[k] := by simp [List.getD, hk']
  exact ⟨nd.name, b, off, by unfold nmAt; rw [hg, hnd], ha, hbB, hc 8 (by decide)⟩

set_option maxHeartbeats 4000000 in
theorem c_l2Twice {B : Nat} {s0 s1 s2 s3 s4 : SL} {M : MD} (w : World) (hBw : B ≤ w.heap.size) (h : ModelAt B w s0 s1 s2 s3 s4 M) :
    Calls Tryz.prog 24 #[.agg (mcells s0 s1 s2 s3 s4).toArray] w fun e w' => BoolIs (twiceN M) e ∧ Below w.heap.size w w' := by
  have HN := Go.Lib.hid h.ns
  have HI := Go.Lib.hid h.is
  have HX := Go.Lib.hid h.xs
  have hl0 : M.ns.length = s0.len := h.ns.1
  have hm := Nat.le_trans h.ns.2.1 h.ns.2.2.1
  unfold maxLen at hm
  clear h
  obtain ⟨a0, l0, p0⟩ := s0
  simp only [mcells] at *
  go_enter Tryz.func24, Tryz.ntmps24
  go_wp2_with fail
  go_loopw [3] (fun i wr => ∃ k : Nat, k ≤ l0 ∧ i = .int .i64 k ∧ (∀ x y : Nat, y < x → x < k → nmAt M.ns x ≠ [] → nmAt M.ns x ≠ nmAt M.ns y) ∧ Boxed ⟨a0, l0, p0⟩ s1 s2 s3 s4 w wr) (fun i _ => l0 - (intOf i).toNat)
  case atStart => exact ⟨0, by omega, rfl, fun x y _ h => by omega, Boxed.new _ _ _ _ _ _ _⟩
  case round =>
    obtain ⟨k, hk, rfl, hno, HX0⟩ := hrel
    have HNO := Go.Lib.hid hno
    have HBX := Go.Lib.hid HX0
    obtain ⟨hlt, b0, b1, b2, -, -, hBk⟩ := HX0
    have HB := Go.Lib.hid hBk
    clear hno hBk
    by_cases hkl : k < l0
    · have hki : (k : Int) < l0 := by omega
      clear b1 b2
      go_wp2_with fail
      clear b0
      go_loopw [4] (fun j wq => ∃ t : Nat, t ≤ k ∧ j = .int .i64 t ∧ (nmAt M.ns k ≠ [] → ∀ y : Nat, y < t → nmAt M.ns k ≠ nmAt M.ns y) ∧ Boxed ⟨a0, l0, p0⟩ s1 s2 s3 s4 w wq) (fun j _ => k - (intOf j).toNat)
      case atStart => exact ⟨0, by omega, rfl, fun _ y h => by omega, HBX.out⟩
      case round =>
        obtain ⟨t, ht, rfl, hnt, HX0⟩ := hrel
        have HNT := Go.Lib.hid hnt
        have HXT := Go.Lib.hid HX0
        obtain ⟨hlt, b0, -, -, -, -, hBt⟩ := HX0
        have HBT := Go.Lib.hid hBt
        clear hnt hBt
        by_cases htk : t < k
        · have hti : (t : Int) < k := by omega
          have htl : (t : Int) < l0 := by omega
          obtain ⟨n1, b, off, e1, rfl, hbB, c8⟩ := node_name ((HN.out.rows.below (HBT.out.mono hBw)).nodes) hkl
          obtain ⟨n2, b', off', e2, he, hbB', d8⟩ := node_name ((HN.out.rows.below (HBT.out.mono hBw)).nodes) (show t < l0 by omega)
          simp only [Option.some.injEq, Addr.mk.injEq, and_true] at he
          obtain ⟨rfl, rfl⟩ := he
          have HS1 := Go.Lib.hid e1
          have HS2 := Go.Lib.hid e2
          clear e1 e2
          by_cases hz : n1.toList = []
          · have hz' : (!n1.toList.isEmpty) = false := by rw [hz]; rfl
            clear d8
            go_wp2_with fail
            go_quiet (fail)
            go_wp2_with fail
            go_roundw
            case rel => exact ⟨t + 1, by omega, by go_num, fun h => absurd (HS1.out.trans hz) h, HXT.out.drewN _⟩
            case measure => simp [intOf]; omega
          · have hz' : (!n1.toList.isEmpty) = true := by cases hq : n1.toList with | nil => exact absurd hq hz | cons => rfl
            by_cases hst : n1.toList = n2.toList
            · have hq : (n1.toList == n2.toList) = true := by simpa using hst
              have HST := Go.Lib.hid hst
              have HZ := Go.Lib.hid hz
              clear hst hz
              go_wp2_with fail
              go_quiet (fail)
              go_wp2_with fail
              go_ret
              exact ⟨BoolIs.yes (.inl ⟨k, t, htk, by omega, by rw [HS1.out]; exact HZ.out, by rw [HS1.out, HS2.out]; exact HST.out⟩), below_drewN HBT.out _⟩
            · have hq : (n1.toList == n2.toList) = false := by simpa using hst
              have HST := Go.Lib.hid hst
              have HZ := Go.Lib.hid hz
              clear hst hz
              go_wp2_with fail
              go_quiet (fail)
              go_wp2_with fail
              go_roundw
              case rel => exact ⟨t + 1, by omega, by go_num, fun hn y hy => by
                  rcases Nat.lt_or_ge y t with h | h
                  · exact HNT.out hn y h
                  · obtain rfl : y = t := by omega
                    rw [HS1.out, HS2.out]; exact HST.out, HXT.out.drewN _⟩
              case measure => simp [intOf]; omega
        · have hti : ¬ (t : Int) < k := by omega
          go_wp2_with fail
          go_roundw
          case rel => exact ⟨k + 1, by omega, by go_num, fun x y hy hx hn => by
                rcases Nat.lt_or_ge x k with h | h
                · exact HNO.out x y hy h hn
                · obtain rfl : x = k := by omega
                  exact HNT.out hn y (by omega), HXT.out⟩
          case measure => simp [intOf]; omega
    · have hki : ¬ (k : Int) < l0 := by omega
      have HNN := Go.Lib.hid (show ¬ namesTwice M.ns by rintro ⟨x, y, hy, hx, hn, he⟩; exact HNO.out x y hy (by omega) hn he)
      have h1B : B ≤ wr.heap.size := Nat.le_trans hBw HB.out.size
      go_wp2_with fail
      refine (c_l2Again wr h1B (HI.out.below (HB.out.mono hBw))).mono ?_
      rintro e w1 ⟨⟨r, rfl, hr⟩, hB1⟩
      have HR := Go.Lib.hid hr
      have HX1 := Go.Lib.hid (HBX.out.below hB1)
      obtain ⟨-, -, -, z2, -, -, hBz⟩ := HBX.out.below hB1
      have HB1 := Go.Lib.hid hBz
      clear hr hB1 b0 b1 b2 hBz
      cases r
      · go_wp2_with fail
        refine (c_l2Again w1 (Nat.le_trans hBw HB1.out.size) (HX.out.below (HB1.out.mono hBw))).mono ?_
        rintro e w2 ⟨⟨r2, rfl, hr2⟩, hB2⟩
        have HR2 := Go.Lib.hid hr2
        have HB2 := Go.Lib.hid (HB1.out.trans (hB2.mono HB1.out.size))
        clear hr2 hB2 z2
        go_wp2_with fail
        go_ret
        cases r2
        · exact ⟨BoolIs.no (by rintro (h | h | h); exact HNN.out h; exact absurd (HR.out.2 h) (by simp); exact absurd (HR2.out.2 h) (by simp)), HB2.out⟩
        · exact ⟨BoolIs.yes (.inr (.inr (HR2.out.1 (by trivial)))), HB2.out⟩
      · go_wp2_with fail
        go_ret
        exact ⟨BoolIs.yes (.inr (.inl (HR.out.1 (by trivial)))), HB1.out⟩
end Go.Proofs.YtbkcecilbpngcaaGreat
