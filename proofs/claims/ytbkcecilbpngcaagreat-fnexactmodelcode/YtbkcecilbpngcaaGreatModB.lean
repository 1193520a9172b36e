
/-
  A state that is bound twice: the model.
-/
import Derived.Test.YtbkcecilbpngcaaGreatRows
import Derived.Test.YtbkcecilbpngcaaGreatG0
import Derived.Test.YtbkcecilbpngcaaGreatPaA
import Derived.Test.YtbkcecilbpngcaaGreatNodeL
import Derived.Test.YtbkcecilbpngcaaGreatModD
import Derived.Test.YtbkcecilbpngcaaGreatModA
import Derived.WalkKit
import Derived.ProofKit
import Derived.OpenShut
import Derived.WalkSpells
import Derived.WalkLawsBesides
import Derived.Outline
import Derived.BigQuiet
import Derived.Handy
import Derived.LoopTactic
import Derived.Deep.Light
import Derived.Deep.RegionWith
import Derived.Deep.RegionHeld3
import Derived.Deep.DeepCutAuto
import Derived.Lib.Hide
namespace Go.Proofs.YtbkcecilbpngcaaGreat
open Go.ChangeShapes Go.WideShapes Go.ChangeAt Go.RowKit
set_option linter.unusedVariables false
set_option maxRecDepth 100000


/-- One bind of a slice, as a walk comes to it. -/
theorem bind_at {B : Nat} {w : World} {a : Option Addr} {len cap k : Nat} {bs : List BD} (h : BindsAt B w a len cap bs) (hk : k < len) :
    ∃ (bd : BD) (b off : Nat), bd = bs.getD k default ∧ bd.ok ∧ a = some ⟨b, off, none⟩ ∧ b < B ∧ w.cell? ⟨b, off + k * 2, none⟩ = some (.int .i64 bd.st) ∧ w.cell? ⟨b, off + k * 2 + 1, none⟩ = some (.int .i64 bd.nd) := by
  obtain ⟨h1, h2, h3, h4, h5, h6⟩ := h
  have hk' : k < bs.length := by omega
  have hg : bs.getD k default = bs[k] := by simp [List.getD, hk']
  rcases h6 with h6 | ⟨b, off, e, hlt, hc⟩
  · omega
  · exact ⟨_, b, off, hg.symm, h4 _ (List.getElem_mem ..), e, hlt, hc k hk' 0 (by decide), hc k hk' 1 (by decide)⟩
def stAt (bs : List BD) (i : Nat) : Int := (bs.getD i default).st
/-- A state is bound twice. -/
def againN (bs : List BD) : Prop := ∃ x y, y < x ∧ x < bs.length ∧ stAt bs x = stAt bs y

set_option maxHeartbeats 4000000 in
theorem c_l2Again {B : Nat} {a : Option Addr} {len cap : Nat} {bs : List BD} (w : World) (hBw : B ≤ w.heap.size) (h : BindsAt B w a len cap bs) :
    Calls Tryz.prog 58 #[.slice a len cap] w fun e w' => BoolIs (againN bs) e ∧ Below w.heap.size w w' := by
  have HN := Go.Lib.hid h
  have hlen : bs.length = len := h.1
  have hm := Nat.le_trans h.2.1 h.2.2.1
  unfold maxLen at hm
  clear h
  go_enter Tryz.func58, Tryz.ntmps58
  go_wp2_with fail
  go_loopw [3] (fun i wr => ∃ k : Nat, k ≤ len ∧ i = .int .i64 k ∧ (∀ x y : Nat, y < x → x < k → stAt bs x ≠ stAt bs y) ∧ Below w.heap.size w wr) (fun i _ => len - (intOf i).toNat)
  case atStart => exact ⟨0, by omega, rfl, fun x y _ h => by omega, Below.refl _ _⟩
  case round =>
    obtain ⟨k, hk, rfl, hno, hBk⟩ := hrel
    have HNO := Go.Lib.hid hno
    have HB := Go.Lib.hid hBk
    clear hno hBk
    by_cases hkl : k < len
    · have hki : (k : Int) < len := by omega
      go_wp2_with fail
      go_loopw [4] (fun j wq => ∃ t : Nat, t ≤ k ∧ j = .int .i64 t ∧ (∀ y : Nat, y < t → stAt bs k ≠ stAt bs y) ∧ Below w.heap.size w wq) (fun j _ => k - (intOf j).toNat)
      case atStart => exact ⟨0, by omega, rfl, fun y h => by omega, HB.out⟩
      case round =>
        obtain ⟨t, ht, rfl, hnt, hBt⟩ := hrel
        have HNT := Go.Lib.hid hnt
        have HBT := Go.Lib.hid hBt
        clear hnt hBt
        by_cases htk : t < k
        · have hti : (t : Int) < k := by omega
          have htl : (t : Int) < len := by omega
          obtain ⟨b1, b, off, e1, -, rfl, hbB, c0, -⟩ := bind_at (HN.out.below (HBT.out.mono hBw)) hkl
          obtain ⟨b2, b', off', e2, -, he, hbB', d0, -⟩ := bind_at (HN.out.below (HBT.out.mono hBw)) (show t < len by omega)
          simp only [Option.some.injEq, Addr.mk.injEq, and_true] at he
          obtain ⟨rfl, rfl⟩ := he
          have hs1 : stAt bs k = b1.st := by unfold stAt; rw [e1]
          have hs2 : stAt bs t = b2.st := by unfold stAt; rw [e2]
          have HS1 := Go.Lib.hid hs1
          have HS2 := Go.Lib.hid hs2
          clear e1 e2 hs1 hs2
          by_cases hst : b1.st = b2.st
          · go_wp2_with fail
            go_quiet (fail)
            go_wp2_with fail
            go_ret
            exact ⟨BoolIs.yes ⟨k, t, htk, by omega, by rw [HS1.out, HS2.out, hst]⟩, below_drewN HBT.out _⟩
          · go_wp2_with fail
            go_quiet (fail)
            go_wp2_with fail
            go_roundw
            case rel => exact ⟨t + 1, by omega, by go_num, fun y hy => by
                rcases Nat.lt_or_ge y t with h | h
                · exact HNT.out y h
                · obtain rfl : y = t := by omega
                  rw [HS1.out, HS2.out]; exact hst, below_drewN HBT.out _⟩
            case measure => simp [intOf]; omega
        · have hti : ¬ (t : Int) < k := by omega
          go_wp2_with fail
          go_roundw
          case rel => exact ⟨k + 1, by omega, by go_num, fun x y hy hx => by
                rcases Nat.lt_or_ge x k with h | h
                · exact HNO.out x y hy h
                · obtain rfl : x = k := by omega
                  exact HNT.out y (by omega), HBT.out⟩
          case measure => simp [intOf]; omega
    · have hki : ¬ (k : Int) < len := by omega
      go_wp2_with fail
      go_ret
      exact ⟨BoolIs.no (by rintro ⟨x, y, hy, hx, he⟩; exact HNO.out x y hy (by omega) he), HB.out⟩
end Go.Proofs.YtbkcecilbpngcaaGreat
