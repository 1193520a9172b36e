/-
  Mathematics of more bits: a set with more bits has each number just if its low bits are in the set, and as many more.
-/
import Derived.Test.YthdofdglbdfkkaaRows
import Derived.Test.YthdofdglbdfkkaaBdR
import Derived.Test.YthdofdglbdfkkaaBdZ
import Derived.Test.YthdofdglbdfkkaaFpB
import Derived.Test.YthdofdglbdfkkaaFpC
namespace Go.Proofs.Ythdofdglbdfkkaa
open Go.ChangeShapes Go.WideShapes Go.ChangeAt Go.RowKit Go.Maps Go.ChangeMaps
set_option linter.unusedVariables false
set_option maxRecDepth 100000

theorem okB_grow {V n R : Int} {m : List BN} (h : OkB V m R) (hn : 0 ≤ n ∧ n ≤ 13) (hV : V ≤ n) : OkB n m R :=
  ⟨hn, h.len, h.hr, fun k hk => by
    obtain ⟨f1, f2, f3, f4, f5, f6⟩ := h.fine k hk
    refine ⟨⟨f1.1, by omega⟩, f2, f3, f4, ?_, ?_⟩
    · unfold vAt at *
      split
      · omega
      · rename_i hh; rw [if_neg hh] at f5; exact f5
    · unfold vAt at *
      split
      · omega
      · rename_i hh; rw [if_neg hh] at f6; exact f6, h.once, h.order⟩
theorem sumR_per (g : Int → Int) (M : Nat) (h : ∀ q i : Nat, i < M → g ((q : Int) * M + i) = g i) : ∀ K : Nat, sumR g 0 (K * M) = K * sumR g 0 M := by
  intro K
  induction K with
  | zero => simp [sumR]
  | succ K ih =>
    rw [Nat.succ_mul, sumR_add, ih]
    have e : sumR g (0 + ((K * M : Nat) : Int)) M = sumR g 0 M := sumR_congr (fun i hi => by
      have := h K i hi
      rw [show (0 : Int) + ((K * M : Nat) : Int) + (i : Int) = (K : Int) * M + i by simp]
      rw [this]
      congr 1
      omega)
    rw [e]
    have : ((K + 1 : Nat) : Int) * sumR g 0 M = (K : Int) * sumR g 0 M + sumR g 0 M := by
      rw [show ((K + 1 : Nat) : Int) = (K : Int) + 1 by omega, Int.add_mul, Int.one_mul]
    omega
theorem cnt_grow {V n R : Int} {m : List BN} (h : OkB V m R) (hn : 0 ≤ n ∧ n ≤ 13) (hV : V ≤ n) : cntP n m R = cntP V m R * 2 ^ (n - V).toNat := by
  have ho := okB_grow h hn hV
  have hv0 := h.hv.1
  unfold cntP
  have e : 2 ^ n.toNat = 2 ^ (n - V).toNat * 2 ^ V.toNat := by
    rw [← Nat.pow_add]; congr 1; omega
  rw [e, sumR_per (hasI m R) (2 ^ V.toNat) (fun q i hi => ?_)]
  · rw [Int.mul_comm, p2_nat]
  · rw [hasI_evF ho, hasI_evF ho]
    have h1 := evF_mod h ((q : Int) * (2 ^ V.toNat : Nat) + i)
    have h2 : ((q : Int) * (2 ^ V.toNat : Nat) + i) % 2 ^ V.toNat = i := by
      rw [← p2_nat, Int.add_comm, Int.add_mul_emod_self_right]
      exact Int.emod_eq_of_lt (by omega) (by omega)
    rw [h2] at h1
    rw [h1]
end Go.Proofs.Ythdofdglbdfkkaa
