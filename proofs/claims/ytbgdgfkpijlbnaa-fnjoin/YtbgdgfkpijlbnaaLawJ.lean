/-
  The law of joining and growing, walked.
-/
import Derived.Test.YtbgdgfkpijlbnaaRows
import Derived.Test.YtbgdgfkpijlbnaaMath
import Derived.Test.YtbgdgfkpijlbnaaBase
import Derived.Test.YtbgdgfkpijlbnaaCut
import Derived.Test.YtbgdgfkpijlbnaaRd
import Derived.Test.YtbgdgfkpijlbnaaRdW
import Derived.WalkKit
import Derived.ProofKit
import Derived.OpenShut
import Derived.WalkSpells
import Derived.WalkLawsBesides
import Derived.Outline
import Derived.BigQuiet
namespace Go.Proofs.Ytbgdgfkpijlbnaa
open Go.ChangeShapes Go.WideShapes Go.ChangeAt Go.RowKit
set_option linter.unusedVariables false

theorem k_DrawWordJoin {w0 : World} {a : Option Addr} {len cap : Nat} (w : World) (h : BytesAt w0.heap.size w0 a len cap) (HB : Below w0.heap.size w0 w) :
    Calls Try.prog 24 #[.slice a len cap] w fun e w' => ∃ n x u y : Int, e = .returned (.tuple #[.int .i64 n, .int .i64 x, .int .i64 u, .int .i64 y]) ∧ Below w0.heap.size w0 w' := by
  refine (c_DrawWordJoin w (h.below HB) HB.size).mono ?_
  rintro e w' ⟨n, x, u, y, rfl, hb⟩
  exact ⟨n, x, u, y, rfl, HB.trans hb⟩
theorem k_DrawWordGrow {w0 : World} {a : Option Addr} {len cap : Nat} (w : World) (h : BytesAt w0.heap.size w0 a len cap) (HB : Below w0.heap.size w0 w) :
    Calls Try.prog 28 #[.slice a len cap] w fun e w' => ∃ (n x m : Int) (s : Bool), e = .returned (.tuple #[.int .i64 n, .int .i64 x, .int .i64 m, .bool s]) ∧ Below w0.heap.size w0 w' := by
  refine (c_DrawWordGrow w (h.below HB) HB.size).mono ?_
  rintro e w' ⟨n, x, m, s, rfl, hb⟩
  exact ⟨n, x, m, s, rfl, HB.trans hb⟩

theorem p2_lt_of {n u : Int} (h1 : 1 ≤ n) (h2 : 1 ≤ u) : (2 : Int) ^ (n + u).toNat = 2 ^ n.toNat * 2 ^ u.toNat := by
  rw [show (n + u).toNat = n.toNat + u.toNat by omega, p2_add]
/-- A joined word is one, and both its parts are cut out of it again. -/
theorem join_facts {n a u b : Int} (h : JOk n a u b) : sliceR (n + u) (a * 2 ^ u.toNat + b) (n + u - 1) u = (a, n, true) ∧ sliceR (n + u) (a * 2 ^ u.toNat + b) (u - 1) 0 = (b, u, true) := by
  have hb := join_bound h
  obtain ⟨ha, hb', hj⟩ := h
  have h1 := ha.1; have h2 := hb'.1
  have g1 := ha.2.2.1; have g2 := hb'.2.2.1
  have ok : WOk (n + u) (a * 2 ^ u.toNat + b) := ⟨by omega, hj, by omega, hb.2.1⟩
  have hp := p2_pos u.toNat
  constructor
  · rw [sliceR_ok ⟨ok, by omega, by omega, by omega⟩, show n + u - 1 - u + 1 = n by omega]
    have e : (a * 2 ^ u.toNat + b) / 2 ^ u.toNat = a := by
      rw [Int.add_comm, Int.add_mul_ediv_right _ _ (by omega), Int.ediv_eq_zero_of_lt g2 hb'.2.2.2]; omega
    rw [e, Int.emod_eq_of_lt g1 ha.2.2.2]
  · rw [sliceR_ok ⟨ok, by omega, by omega, by omega⟩, show u - 1 - 0 + 1 = u by omega]
    have e : (a * 2 ^ u.toNat + b) / 2 ^ (0 : Int).toNat = a * 2 ^ u.toNat + b := by simp
    rw [e, Int.add_comm, Int.add_mul_emod_self_right, Int.emod_eq_of_lt g2 hb'.2.2.2]
theorem sgn_frm2 {n t : Int} (h1 : 1 ≤ n) (h2 : n ≤ 16) (h3 : -(2 ^ (n.toNat - 1)) ≤ t) (h4 : t < 2 ^ (n.toNat - 1)) : sgn n (frm n t) = t := by
  have hp := p2_half h1
  have hpp := p2_pos (n.toNat - 1)
  rw [sgn_eq (frm_ok t h1 h2), frm_eq _ h1 h2]
  by_cases h : 0 ≤ t
  · rw [Int.emod_eq_of_lt h (by omega), if_neg (by omega)]
  · have e : t % 2 ^ n.toNat = t + 2 ^ n.toNat := by
      rw [← Int.add_emod_right, Int.emod_eq_of_lt (by omega) (by omega)]
    rw [e, if_pos (by omega)]; omega
/-- A word that has grown has its low bits, and its value. -/
theorem grow_facts {n a m : Int} (s : Bool) (h : GOk n a m) : sliceR (n + m) (growR n a m s).1 (n - 1) 0 = (a, n, true) ∧ (s = false → (growR n a m s).1 = a) ∧ (s = true → sgn (n + m) (growR n a m s).1 = sgn n a) := by
  rw [growR_ok s h]
  obtain ⟨ha, hm0, hm1⟩ := h
  have h1 := ha.1; have g1 := ha.2.2.1
  have hle : (2 : Int) ^ n.toNat ≤ 2 ^ (n + m).toNat := p2_mono (by omega)
  have hle2 : (2 : Int) ^ (n.toNat - 1) ≤ 2 ^ ((n + m).toNat - 1) := p2_mono (by omega)
  have hsr := sgn_range ha
  have hv : WOk (n + m) (if s = true then frm (n + m) (sgn n a) else a) := by
    cases s
    · exact ⟨by omega, by omega, g1, Int.lt_of_lt_of_le ha.2.2.2 hle⟩
    · exact frm_ok _ (by omega) (by omega)
  refine ⟨?_, ?_, ?_⟩
  · rw [sliceR_ok ⟨hv, by omega, by omega, by omega⟩, show n - 1 - 0 + 1 = n by omega]
    have e0 : ∀ y : Int, y / 2 ^ (0 : Int).toNat = y := fun y => by simp
    simp only [e0]
    cases s
    · simp only [Bool.false_eq_true, if_false]; rw [Int.emod_eq_of_lt g1 ha.2.2.2]
    · simp only [if_true]
      have hd : (2 : Int) ^ n.toNat ∣ 2 ^ (n + m).toNat := by
        rw [show (n + m).toNat = n.toNat + m.toNat by omega, p2_add]; exact Int.dvd_mul_right ..
      rw [frm_eq _ (by omega) (by omega), Int.emod_emod_of_dvd _ hd, ← frm_eq _ ha.1 ha.2.1, frm_sgn ha]
  · rintro rfl; rfl
  · rintro rfl
    exact sgn_frm2 (by omega) (by omega) (by simp only [if_true] at *; omega) (by omega)

set_option maxRecDepth 100000 in
theorem w_FnJoin (a0 : Option Addr) (len0 cap0 : Nat) (a1 : Option Addr) (len1 cap1 : Nat) (w : World) (h0 : BytesAt w.heap.size w a0 len0 cap0) (h1 : BytesAt w.heap.size w a1 len1 cap1) :
    Calls Try.prog 6 #[.slice a0 len0 cap0, .slice a1 len1 cap1] w fun e w' => e = .returned (.bool true) ∧ Below w.heap.size w w' := by
  have HB0 : Below w.heap.size w w := Below.refl _ _
  by_cases hl0 : (1048576 : Int) < len0
  · go_enter Try.func6, Try.ntmps6
    go_wp2_with fail
    go_ret
    exact ⟨rfl, HB0⟩
  · by_cases hl1 : (1048576 : Int) < len1
    · go_enter Try.func6, Try.ntmps6
      go_wp2_with fail
      go_ret
      exact ⟨rfl, HB0⟩
    · go_enter Try.func6, Try.ntmps6
      go_wp2_with fail
      refine (k_DrawWordJoin _ h0 HB0).mono ?_
      rintro e w1 ⟨n, a, u, b, rfl, HB1⟩
      clear HB0 h0 hl0 hl1
      by_cases hJ : JOk n a u b
      · have f1 := joinR_ok hJ
        obtain ⟨f2, f3⟩ := join_facts hJ
        have h1' := hJ.1.1; have h2' := hJ.2.1.1; have h3' := hJ.2.2
        have hw1 : wrap64 (n + u - 1) = n + u - 1 := IntWalk.wrap64_in _ (by omega)
        have hw2 : wrap64 (u - 1) = u - 1 := IntWalk.wrap64_in _ (by omega)
        clear hJ
        generalize a * 2 ^ u.toNat + b = v at *
        go_wp2_with (first | (go_at_call 25; refine (c_WordJoinI _ _ _ _ _).mono ?_; rintro e wz ⟨rfl, hz⟩; obtain rfl := hz.symm) | (go_at_call 26; refine (c_WordJoinS _ _ _ _ _).mono ?_; rintro e wz ⟨rfl, hz⟩; obtain rfl := hz.symm) | (go_at_call 27; refine (c_WordSliceI _ _ _ _ _).mono ?_; rintro e wz ⟨rfl, hz⟩; obtain rfl := hz.symm))
        refine (k_DrawWordGrow _ h1 HB1).mono ?_
        rintro e w2 ⟨n2, c, m, sg, rfl, HB2⟩
        clear h1 HB1 f1
        by_cases hG : GOk n2 c m
        · obtain ⟨t1, t2, t3⟩ := grow_facts sg hG
          have t0 : (growR n2 c m sg).2 = (n2 + m, true) := by rw [growR_ok sg hG]
          have h1' := hG.1.1; have h2' := hG.1.2.1; have h3' := hG.2.1; have h4' := hG.2.2
          have hw3 : wrap64 (n2 - 1) = n2 - 1 := IntWalk.wrap64_in _ (by omega)
          clear hG
          obtain ⟨g, hg⟩ : ∃ g, (growR n2 c m sg).1 = g := ⟨_, rfl⟩
          rw [hg] at t1 t2 t3
          cases sg
          · have t2' := t2 rfl
            clear t2 t3
            subst t2'
            go_wp2_with (first | (go_at_call 29; refine (c_WordGrowI _ _ _ _ _).mono ?_; rintro e wz ⟨rfl, hz⟩; obtain rfl := hz.symm) | (go_at_call 30; refine (c_WordGrowS _ _ _ _ _).mono ?_; rintro e wz ⟨rfl, hz⟩; obtain rfl := hz.symm) | (go_at_call 27; refine (c_WordSliceI _ _ _ _ _).mono ?_; rintro e wz ⟨rfl, hz⟩; obtain rfl := hz.symm))
            go_ret
            exact ⟨rfl, HB2⟩
          · have t3' := t3 rfl
            clear t2 t3
            go_wp2_with (first | (go_at_call 29; refine (c_WordGrowI _ _ _ _ _).mono ?_; rintro e wz ⟨rfl, hz⟩; obtain rfl := hz.symm) | (go_at_call 30; refine (c_WordGrowS _ _ _ _ _).mono ?_; rintro e wz ⟨rfl, hz⟩; obtain rfl := hz.symm) | (go_at_call 27; refine (c_WordSliceI _ _ _ _ _).mono ?_; rintro e wz ⟨rfl, hz⟩; obtain rfl := hz.symm) | (go_at_call 22; refine (c_WordSignedI _ _ _).mono ?_; rintro e wz ⟨rfl, hz⟩; obtain rfl := hz.symm))
            go_ret
            exact ⟨rfl, HB2⟩
        · have t0 := growR_no sg hG
          clear hG
          go_wp2_with (first | (go_at_call 29; refine (c_WordGrowI _ _ _ _ _).mono ?_; rintro e wz ⟨rfl, hz⟩; obtain rfl := hz.symm) | (go_at_call 30; refine (c_WordGrowS _ _ _ _ _).mono ?_; rintro e wz ⟨rfl, hz⟩; obtain rfl := hz.symm))
          go_ret
          exact ⟨rfl, HB2⟩
      · have f1 := joinR_no hJ
        clear hJ
        go_wp2_with (first | (go_at_call 25; refine (c_WordJoinI _ _ _ _ _).mono ?_; rintro e wz ⟨rfl, hz⟩; obtain rfl := hz.symm) | (go_at_call 26; refine (c_WordJoinS _ _ _ _ _).mono ?_; rintro e wz ⟨rfl, hz⟩; obtain rfl := hz.symm) | (go_at_call 27; refine (c_WordSliceI _ _ _ _ _).mono ?_; rintro e wz ⟨rfl, hz⟩; obtain rfl := hz.symm))
        refine (k_DrawWordGrow _ h1 HB1).mono ?_
        rintro e w2 ⟨n2, c, m, sg, rfl, HB2⟩
        clear h1 HB1 f1
        by_cases hG : GOk n2 c m
        · obtain ⟨t1, t2, t3⟩ := grow_facts sg hG
          have t0 : (growR n2 c m sg).2 = (n2 + m, true) := by rw [growR_ok sg hG]
          have h1' := hG.1.1; have h2' := hG.1.2.1; have h3' := hG.2.1; have h4' := hG.2.2
          have hw3 : wrap64 (n2 - 1) = n2 - 1 := IntWalk.wrap64_in _ (by omega)
          clear hG
          obtain ⟨g, hg⟩ : ∃ g, (growR n2 c m sg).1 = g := ⟨_, rfl⟩
          rw [hg] at t1 t2 t3
          cases sg
          · have t2' := t2 rfl
            clear t2 t3
            subst t2'
            go_wp2_with (first | (go_at_call 29; refine (c_WordGrowI _ _ _ _ _).mono ?_; rintro e wz ⟨rfl, hz⟩; obtain rfl := hz.symm) | (go_at_call 30; refine (c_WordGrowS _ _ _ _ _).mono ?_; rintro e wz ⟨rfl, hz⟩; obtain rfl := hz.symm) | (go_at_call 27; refine (c_WordSliceI _ _ _ _ _).mono ?_; rintro e wz ⟨rfl, hz⟩; obtain rfl := hz.symm))
            go_ret
            exact ⟨rfl, HB2⟩
          · have t3' := t3 rfl
            clear t2 t3
            go_wp2_with (first | (go_at_call 29; refine (c_WordGrowI _ _ _ _ _).mono ?_; rintro e wz ⟨rfl, hz⟩; obtain rfl := hz.symm) | (go_at_call 30; refine (c_WordGrowS _ _ _ _ _).mono ?_; rintro e wz ⟨rfl, hz⟩; obtain rfl := hz.symm) | (go_at_call 27; refine (c_WordSliceI _ _ _ _ _).mono ?_; rintro e wz ⟨rfl, hz⟩; obtain rfl := hz.symm) | (go_at_call 22; refine (c_WordSignedI _ _ _).mono ?_; rintro e wz ⟨rfl, hz⟩; obtain rfl := hz.symm))
            go_ret
            exact ⟨rfl, HB2⟩
        · have t0 := growR_no sg hG
          clear hG
          go_wp2_with (first | (go_at_call 29; refine (c_WordGrowI _ _ _ _ _).mono ?_; rintro e wz ⟨rfl, hz⟩; obtain rfl := hz.symm) | (go_at_call 30; refine (c_WordGrowS _ _ _ _ _).mono ?_; rintro e wz ⟨rfl, hz⟩; obtain rfl := hz.symm))
          go_ret
          exact ⟨rfl, HB2⟩
end Go.Proofs.Ytbgdgfkpijlbnaa
