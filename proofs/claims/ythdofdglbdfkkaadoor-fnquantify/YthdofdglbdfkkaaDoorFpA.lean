/-
  Mathematics of promises about diagrams: which bits a diagram uses.
-/
import Derived.Test.YthdofdglbdfkkaaDoorRows
import Derived.Test.YthdofdglbdfkkaaDoorFpB
import Derived.Test.YthdofdglbdfkkaaDoorFoA
import Derived.Test.YthdofdglbdfkkaaDoorFoB
import Derived.Test.YthdofdglbdfkkaaDoorFoI
import Derived.Test.YthdofdglbdfkkaaDoorFoK
import Derived.Test.YthdofdglbdfkkaaDoorFoY
import Derived.Test.YthdofdglbdfkkaaDoorBdU
namespace Go.Proofs.YthdofdglbdfkkaaDoor
open Go.ChangeShapes Go.WideShapes Go.ChangeAt Go.RowKit Go.Maps Go.ChangeMaps
set_option linter.unusedVariables false
set_option maxRecDepth 100000

/-- Two bits set. -/
theorem fix_same {i c : Int} {x : Bool} (h0 : 0 ≤ i) (h : bitN c i = bI x) : fixc i x c = c := by
  unfold fixc
  rw [if_neg (by omega), h]
  omega
theorem fix_eq {i c : Int} {y : Bool} (h0 : 0 ≤ i) : fixc i y c = c + (bI y - bitN c i) * 2 ^ i.toNat := by
  unfold fixc
  rw [if_neg (by omega)]
theorem fix_fix {i c : Int} {x y : Bool} (h0 : 0 ≤ i) : fixc i y (fixc i x c) = fixc i y c := by
  have e := bitN_fixc (i := i) (v := i) (c := c) (yes := x) h0
  rw [if_pos rfl] at e
  have a := fix_eq (c := fixc i x c) (y := y) h0
  rw [e] at a
  have b := fix_eq (c := c) (y := x) h0
  have d := fix_eq (c := c) (y := y) h0
  have : (bI y - bitN c i) * 2 ^ i.toNat = (bI x - bitN c i) * 2 ^ i.toNat + (bI y - bI x) * 2 ^ i.toNat := by
    rw [← Int.add_mul]; congr 1; omega
  omega
theorem bit_01 (c i : Int) : bitN c i = 0 ∨ bitN c i = 1 := by unfold bitN; omega
theorem fix_range {vars i c : Int} {yes : Bool} (hi : 0 ≤ i ∧ i < vars) (hc : 0 ≤ c ∧ c < 2 ^ vars.toNat) : 0 ≤ fixc i yes c ∧ fixc i yes c < 2 ^ vars.toNat := by
  obtain ⟨a, rfl⟩ : ∃ a : Nat, i = a := ⟨i.toNat, by omega⟩
  obtain ⟨d, hd⟩ : ∃ d, vars.toNat = a + (d + 1) := ⟨vars.toNat - a - 1, by omega⟩
  have hp := pow_pos' a
  have e3 : (2 : Int) ^ vars.toNat = 2 ^ a * (2 * 2 ^ d) := by rw [hd, pow_add', Int.pow_succ, Int.mul_comm (2 ^ d)]
  have hpd := pow_pos' d
  unfold fixc
  rw [if_neg (by omega), Int.toNat_natCast]
  have hb := bit_01 c a
  have hm := mod_two_mul c (2 ^ a) hp
  have h1 := Int.mul_ediv_add_emod c (2 ^ a * 2)
  have h3 := Int.emod_nonneg c (Int.ne_of_gt hp)
  have h4 := Int.emod_lt_of_pos c hp
  have hq0 : 0 ≤ c / (2 ^ a * 2) := Int.ediv_nonneg hc.1 (by omega)
  have hq1 : c / (2 ^ a * 2) < 2 ^ d := by
    refine Int.ediv_lt_of_lt_mul (by omega) ?_
    have : (2 : Int) ^ d * (2 ^ a * 2) = 2 ^ vars.toNat := by rw [e3, Int.mul_comm, Int.mul_assoc]
    omega
  have hq2 : 2 ^ a * 2 * (c / (2 ^ a * 2)) + 2 ^ a * 2 ≤ 2 ^ vars.toNat := by
    have : 2 ^ a * 2 * (c / (2 ^ a * 2) + 1) ≤ 2 ^ a * 2 * 2 ^ d := Int.mul_le_mul_of_nonneg_left (by omega) (by omega)
    rw [Int.mul_add, Int.mul_one] at this
    rw [e3, ← Int.mul_assoc]
    exact this
  have hq3 : 0 ≤ 2 ^ a * 2 * (c / (2 ^ a * 2)) := Int.mul_nonneg (by omega) hq0
  have hbb : bitN c a = c / 2 ^ a % 2 := by unfold bitN; rw [Int.toNat_natCast]
  rw [hbb] at hb ⊢
  have hy : bI yes = 0 ∨ bI yes = 1 := by cases yes; exact .inl rfl; exact .inr rfl
  rcases hb with hb | hb <;> rcases hy with hy | hy <;> rw [hb, hy] <;> rw [hb] at hm <;> simp <;> omega
theorem fix_ev {i c : Int} {yes : Bool} : ∀ (t : DT) {vars k : Int}, 0 ≤ k → t.Red vars k → (∀ l h, ¬ Sub (.node i l h) t) → t.ev (fixc i yes c) = t.ev c
  | .leaf b, vars, k, hk, hr, hn => rfl
  | .node v l r, vars, k, hk, hr, hn => by
    obtain ⟨⟨h1, h2⟩, h3, h4, h5⟩ := hr
    have i1 := fix_ev (i := i) (c := c) (yes := yes) l (by omega) h4 (fun a b h => hn a b (.lo h))
    have i2 := fix_ev (i := i) (c := c) (yes := yes) r (by omega) h5 (fun a b h => hn a b (.hi h))
    have hb := bitN_fixc (i := i) (v := v) (c := c) (yes := yes) (by omega)
    have hne : v ≠ i := fun e => by subst e; exact hn l r (.refl _)
    rw [if_neg hne] at hb
    simp only [DT.ev]
    rw [i1, i2, hb]
theorem rs_top {i : Int} {yes : Bool} : ∀ (s : DT) {v : Int} {l h : DT}, rs i yes s = .node v l h → v ≠ i
  | .leaf b, v, l, h, e => by unfold rs at e; cases e
  | .node v' l' h', v, l, h, e => by
    unfold rs at e
    by_cases e1 : v' = i
    · rw [if_pos e1] at e
      split at e
      · exact rs_top h' e
      · exact rs_top l' e
    · rw [if_neg e1] at e
      split at e
      · exact rs_top l' e
      · injection e with e2 e3 e4
        rw [← e2]; exact e1
/-- A tree that does not hang on a bit does not ask it. -/
theorem no_sub {vars i : Int} {yes : Bool} {t : DT} (hv : 0 ≤ vars) (h1 : t.Red vars 0) (hn : ∀ c, 0 ≤ c → c < 2 ^ vars.toNat → t.ev (fixc i yes c) = t.ev c) : ∀ l h, ¬ Sub (.node i l h) t := by
  have e : rs i yes t = t := red_same (f := fun c => t.ev c) hv (rs_red t h1) h1 (fun c a b => (rs_ev t (Int.le_refl 0) h1).trans (hn c a b)) (fun c _ _ => rfl)
  intro l h hs
  rw [← e] at hs
  obtain ⟨s, -, e2, -⟩ := rs_sub t _ hs ⟨_, _, _, rfl⟩
  exact rs_top s e2.symm rfl
theorem Adds.no_asked {vars i : Int} {t : DT} {ms : List BN} {R : Int} (h1 : t.Red vars 0) (h3 : Adds t [] ms R) (hn : ∀ l h, ¬ Sub (.node i l h) t) : ¬ AskedP i ms := by
  rintro ⟨k, hk, e⟩
  have hF := (h3.all (Int.le_refl 0) h1 (Frs.nil vars)).1
  obtain ⟨s, hs, -⟩ := TreeOf.total hF (k + 2) ((k : Int) + 2) (by omega) (by omega) (by omega)
  have hsub := h3.subs (Int.le_refl 0) h1 (Frs.nil vars) _ _ hs (by show (0 : Int) + 2 ≤ _; omega)
  generalize hp : (k : Int) + 2 = pp at hs
  cases hs with
  | no => omega
  | yes => omega
  | node k' hk' a b =>
    obtain rfl : k = k' := by omega
    rw [e] at hsub
    exact hn _ _ hsub
theorem ord_sub {ns : List BN} : ∀ (f : Nat) (p : Int) (D : List Int) (x : Int), x ∈ ord ns f p D → x ∈ D ∨ ∀ t, TreeOf ns p t → ∃ s, TreeOf ns x s ∧ Sub s t := by
  intro f
  induction f with
  | zero => intro p D x h; exact .inl h
  | succ f ih =>
    intro p D x h
    rw [ord] at h
    split at h
    · exact .inl h
    · rename_i h2
      split at h
      · exact .inl h
      · rw [List.mem_append] at h
        rcases h with h | h
        · rcases ih _ _ _ h with h | h
          · rcases ih _ _ _ h with h | h
            · exact .inl h
            · refine .inr (fun t ht => ?_)
              generalize hp : p = pp at ht
              cases ht with
              | no => omega
              | yes => omega
              | node k hk a b =>
                have e : (p - 2).toNat = k := by omega
                rw [e] at h
                obtain ⟨s, q1, q2⟩ := h _ a
                exact ⟨s, q1, .lo q2⟩
          · refine .inr (fun t ht => ?_)
            generalize hp : p = pp at ht
            cases ht with
            | no => omega
            | yes => omega
            | node k hk a b =>
              have e : (p - 2).toNat = k := by omega
              rw [e] at h
              obtain ⟨s, q1, q2⟩ := h _ b
              exact ⟨s, q1, .hi q2⟩
        · refine .inr (fun t ht => ?_)
          obtain rfl : x = p := by simpa using h
          exact ⟨t, ht, .refl _⟩
/-- Each node of a diagram is met from its root. -/
theorem OkB.sub {vars i : Int} {ns : List BN} {r : Int} {t : DT} (h : OkB vars ns r) (ht : TreeOf ns r t) (ha : AskedP i ns) : ∃ l h, Sub (.node i l h) t := by
  obtain ⟨k, hk, e⟩ := ha
  have hm : (k : Int) + 2 ∈ ord ns (ns.length + 1) r [] := (isC_mem h.order.1 _).2 (by rw [h.order.2]; omega)
  rcases ord_sub _ _ _ _ hm with hx | hx
  · cases hx
  · obtain ⟨s, q1, q2⟩ := hx t ht
    generalize hp : (k : Int) + 2 = pp at q1
    cases q1 with
    | no => omega
    | yes => omega
    | node k' hk' a b =>
      obtain rfl : k = k' := by omega
      rw [e] at q2
      exact ⟨_, _, q2⟩
/-- A bit is used just if it makes a difference. -/
theorem uses_iff {vars i : Int} {ns : List BN} {r : Int} (h : OkB vars ns r) (hi : 0 ≤ i ∧ i < vars) : AskedP i ns ↔ ¬ ∀ c, 0 ≤ c → c < 2 ^ vars.toNat → evF ns r (fixc i false c) = evF ns r (fixc i true c) := by
  obtain ⟨t, ht, hr⟩ := h.tree
  have he : ∀ c, evF ns r c = t.ev c := fun c => evF_tree ht
  constructor
  · intro ha hall
    obtain ⟨a, b, hs⟩ := h.sub ht ha
    refine no_sub (yes := false) h.hv.1 hr (fun c h0 h1 => ?_) a b hs
    rcases bit_01 c i with hb | hb
    · rw [fix_same hi.1 (x := false) hb]
    · have := hall c h0 h1
      rw [he, he, fix_same hi.1 (x := true) hb] at this
      exact this
  · intro hn
    refine Classical.byContradiction (fun ha => hn (fun c h0 h1 => ?_))
    have hns : ∀ l h, ¬ Sub (.node i l h) t := fun a b hs => by
      obtain ⟨q, hq⟩ := TreeOf.sub hs ht
      obtain ⟨k, hk, -, e, -, -⟩ := hq.split
      exact ha ⟨k, hk, e.symm⟩
    rw [he, he, fix_ev t (Int.le_refl 0) hr hns, fix_ev t (Int.le_refl 0) hr hns]
/-- What does not hang on a bit does not use it. -/
theorem AnsR.unused {vars i : Int} {f : Int → Bool} {V : Int} {ms : List BN} {R : Int} (hv : 0 ≤ vars ∧ vars ≤ 13) (hi : 0 ≤ i ∧ i < vars) (h : AnsR vars f V ms R true) (hf : ∀ c, 0 ≤ c → c < 2 ^ vars.toNat → f (fixc i true c) = f c) : ¬ AskedP i ms := by
  obtain ⟨-, -, -, t, h1, h2, h3⟩ := h.is hv
  refine Adds.no_asked h1 h3 (no_sub (yes := true) hv.1 h1 (fun c h0 h1' => ?_))
  have hr := fix_range (yes := true) hi ⟨h0, h1'⟩
  rw [h2 _ hr.1 hr.2, h2 _ h0 h1', hf c h0 h1']
end Go.Proofs.YthdofdglbdfkkaaDoor
