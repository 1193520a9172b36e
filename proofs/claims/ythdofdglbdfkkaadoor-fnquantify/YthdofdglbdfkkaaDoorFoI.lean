/-
  A bit set makes no diagram larger.
-/
import Derived.Test.YthdofdglbdfkkaaDoorRows
import Derived.Test.YthdofdglbdfkkaaDoorFoA
import Derived.Test.YthdofdglbdfkkaaDoorFoB
import Derived.Test.YthdofdglbdfkkaaDoorFoL
import Derived.Test.YthdofdglbdfkkaaDoorFoY
import Derived.Test.YthdofdglbdfkkaaDoorFoK
namespace Go.Proofs.YthdofdglbdfkkaaDoor
open Go.ChangeShapes Go.WideShapes Go.ChangeAt Go.RowKit Go.Maps Go.ChangeMaps
set_option linter.unusedVariables false
set_option maxRecDepth 100000

/-- A tree within a tree. -/
inductive Sub : DT → DT → Prop
  | refl (t : DT) : Sub t t
  | lo {s : DT} {v : Int} {l h : DT} (hs : Sub s l) : Sub s (.node v l h)
  | hi {s : DT} {v : Int} {l h : DT} (hs : Sub s h) : Sub s (.node v l h)
open Classical in
/-- A tree with a bit set. -/
noncomputable def rs (i : Int) (yes : Bool) : DT → DT
  | .leaf b => .leaf b
  | .node v l h => if v = i then (if yes = true then rs i yes h else rs i yes l) else if rs i yes l = rs i yes h then rs i yes l else .node v (rs i yes l) (rs i yes h)
theorem rs_ev {vars i c : Int} {yes : Bool} : ∀ (t : DT) {k : Int}, 0 ≤ k → t.Red vars k → (rs i yes t).ev c = t.ev (fixc i yes c)
  | .leaf b, k, hk, hr => rfl
  | .node v l h, k, hk, hr => by
    obtain ⟨⟨h1, h2⟩, h3, h4, h5⟩ := hr
    have i1 := rs_ev (i := i) (c := c) (yes := yes) l (by omega) h4
    have i2 := rs_ev (i := i) (c := c) (yes := yes) h (by omega) h5
    have hb := bitN_fixc (i := i) (v := v) (c := c) (yes := yes) (by omega)
    show (rs i yes (.node v l h)).ev c = if bitN (fixc i yes c) v = 1 then h.ev (fixc i yes c) else l.ev (fixc i yes c)
    unfold rs
    rw [hb, ← i1, ← i2]
    by_cases e : v = i
    · rw [if_pos e, if_pos e]
      cases yes
      · rw [if_neg (by decide), if_neg (by decide)]
      · rw [if_pos rfl, if_pos (by decide)]
    · rw [if_neg e, if_neg e]
      by_cases e2 : rs i yes l = rs i yes h
      · rw [if_pos e2, ← e2]
        split <;> rfl
      · rw [if_neg e2]
        rfl
theorem rs_red {vars i : Int} {yes : Bool} : ∀ (t : DT) {k : Int}, t.Red vars k → (rs i yes t).Red vars k
  | .leaf b, k, hr => trivial
  | .node v l h, k, hr => by
    obtain ⟨⟨h1, h2⟩, h3, h4, h5⟩ := hr
    have i1 := rs_red (i := i) (yes := yes) l h4
    have i2 := rs_red (i := i) (yes := yes) h h5
    unfold rs
    by_cases e : v = i
    · rw [if_pos e]
      split
      · exact i2.mono (by omega)
      · exact i1.mono (by omega)
    · rw [if_neg e]
      by_cases e2 : rs i yes l = rs i yes h
      · rw [if_pos e2]
        exact i1.mono (by omega)
      · rw [if_neg e2]
        exact ⟨⟨h1, h2⟩, e2, i1, i2⟩
theorem rs_sub {i : Int} {yes : Bool} : ∀ (t s' : DT), Sub s' (rs i yes t) → (∃ v l h, s' = .node v l h) → ∃ s, Sub s t ∧ s' = rs i yes s ∧ ∃ v l h, s = .node v l h
  | .leaf b, s', hs, hn => by
    obtain ⟨v, l, h, rfl⟩ := hn
    unfold rs at hs
    cases hs
  | .node v l h, s', hs, hn => by
    have i1 := rs_sub (i := i) (yes := yes) l s'
    have i2 := rs_sub (i := i) (yes := yes) h s'
    unfold rs at hs
    by_cases e : v = i
    · rw [if_pos e] at hs
      split at hs
      · obtain ⟨s, a, b, c⟩ := i2 hs hn
        exact ⟨s, .hi a, b, c⟩
      · obtain ⟨s, a, b, c⟩ := i1 hs hn
        exact ⟨s, .lo a, b, c⟩
    · rw [if_neg e] at hs
      by_cases e2 : rs i yes l = rs i yes h
      · rw [if_pos e2] at hs
        obtain ⟨s, a, b, c⟩ := i1 hs hn
        exact ⟨s, .lo a, b, c⟩
      · rw [if_neg e2] at hs
        have hme : rs i yes (.node v l h) = .node v (rs i yes l) (rs i yes h) := by
          conv => lhs; unfold rs
          rw [if_neg e, if_neg e2]
        cases hs with
        | refl => exact ⟨.node v l h, .refl _, hme.symm, _, _, _, rfl⟩
        | lo hs' =>
          obtain ⟨s, a, b, c⟩ := i1 hs' hn
          exact ⟨s, .lo a, b, c⟩
        | hi hs' =>
          obtain ⟨s, a, b, c⟩ := i2 hs' hn
          exact ⟨s, .hi a, b, c⟩
theorem TreeOf.sub {ns : List BN} {s t : DT} (hs : Sub s t) : ∀ {p : Int}, TreeOf ns p t → ∃ q, TreeOf ns q s := by
  induction hs with
  | refl => intro p h; exact ⟨_, h⟩
  | lo _ ih => intro p h; obtain ⟨k, hk, e, h1, h2, h3⟩ := h.split; exact ih (by assumption)
  | hi _ ih => intro p h; obtain ⟨k, hk, e, h1, h2, h3⟩ := h.split; exact ih (by assumption)
theorem Adds.subs {vars : Int} {t : DT} {n0 n' : List BN} {p : Int} (h : Adds t n0 n' p) : ∀ {k : Int}, 0 ≤ k → t.Red vars k → Frs vars n0 → ∀ q s, TreeOf n' q s → (n0.length : Int) + 2 ≤ q → Sub s t := by
  induction h with
  | leaf b ns => intro k _ _ _ q s hq hl; have := hq.rng; omega
  | here ht => intro k _ _ _ q s hq hl; have := hq.rng; omega
  | @new v l h ns n1 n2 a b hno hl hh ih1 ih2 =>
    intro k hk hr hF q s hq hlq
    have hr0 := hr
    obtain ⟨⟨h1, h2⟩, h3, h4, h5⟩ := hr
    have hv0 : 0 ≤ v + 1 := by omega
    have F1 := (hl.all hv0 h4 hF).1
    have F2 := (hh.all hv0 h5 F1).1
    have hT := (Adds.new hno hl hh).tree
    have hrng := hq.rng
    rw [List.length_append] at hrng
    by_cases e : q = (n2.length : Int) + 2
    · subst e
      obtain rfl := hq.same hT
      exact .refl _
    · have hq2 : q < (n2.length : Int) + 2 := by simp at hrng; omega
      have hc := TreeOf.cut F2 hq hq2
      by_cases e2 : (n1.length : Int) + 2 ≤ q
      · exact .hi (ih2 hv0 h5 F1 q s hc e2)
      · obtain ⟨m2, rfl⟩ := hh.ext
        exact .lo (ih1 hv0 h4 hF q s (TreeOf.cut F1 hc (by omega)) hlq)
open Classical in
theorem rs_bound {vars i p' root : Int} {yes : Bool} {ns ns' : List BN} (hF : Frs vars ns) {t0 : DT} (ht0 : TreeOf ns root t0) (hr : t0.Red vars 0) (h : Adds (rs i yes t0) [] ns' p') : ns'.length ≤ ns.length := by
  have hF' := (h.all (Int.le_refl 0) (rs_red t0 hr) (Frs.nil vars)).1
  have key : ∀ q : Nat, q < ns'.length → ∃ m : Nat, m < ns.length ∧ ∃ s, TreeOf ns ((m : Int) + 2) s ∧ TreeOf ns' ((q : Int) + 2) (rs i yes s) := fun q hq => by
    obtain ⟨s', hs', -⟩ := TreeOf.total hF' (q + 2) ((q : Int) + 2) (by omega) (by omega) (by omega)
    have hsub := h.subs (Int.le_refl 0) (rs_red t0 hr) (Frs.nil vars) _ _ hs' (by simp; omega)
    have hin : ∃ v l h, s' = DT.node v l h := by
      generalize hp : (q : Int) + 2 = pp at hs'
      cases hs' with
      | no => omega
      | yes => omega
      | node k hk a b => exact ⟨_, _, _, rfl⟩
    obtain ⟨s, hs, rfl, vi, li, hi2, rfl⟩ := rs_sub _ _ hsub hin
    obtain ⟨r, hr2⟩ := TreeOf.sub hs ht0
    have hr3 := hr2
    obtain ⟨m, hm, rfl, -, -, -⟩ := hr2.split
    exact ⟨m, hm, _, hr3, hs'⟩
  refine pigeon ns.length ns'.length (fun q => if h : q < ns'.length then Classical.choose (key q h) else 0) (fun q hq => ?_) (fun q1 q2 h1 h2 e => ?_)
  · simp only [hq, dif_pos]
    exact (Classical.choose_spec (key q hq)).1
  · simp only [h1, h2, dif_pos] at e
    obtain ⟨-, s1, a1, b1⟩ := Classical.choose_spec (key q1 h1)
    obtain ⟨-, s2, a2, b2⟩ := Classical.choose_spec (key q2 h2)
    rw [e] at a1
    obtain rfl := a1.same a2
    have := TreeOf.place hF' b1 b2
    omega
/-- What the answer of a bit set is. -/
theorem fix_ans {V1 r1 i : Int} {yes : Bool} {ns1 : List BN} (hok : OkB V1 ns1 r1) {V R : Int} {ms : List BN} {q : Bool} (h : AnsR V1 (fun c => evF ns1 r1 (fixc i yes c)) V ms R q) :
    q = true ∧ V = V1 ∧ OkB V1 ms R ∧ ∀ c, 0 ≤ c → c < 2 ^ V1.toNat → evF ms R c = evF ns1 r1 (fixc i yes c) := by
  obtain ⟨t, h1, h2, ns, p, h3, h4⟩ := h
  have hF : Frs V1 ns1 := ⟨hok.fine, hok.once⟩
  have hin : InF ns1 r1 := ⟨hok.hr.1, by have := hok.hr.2; omega⟩
  obtain ⟨t0, ht0, hr0⟩ := InF.tree hF hin
  have hr1 : t0.Red V1 0 := hr0.mono (vAt_nonneg hok.hv.1 hF hin).1
  obtain rfl : t = rs i yes t0 := red_same hok.hv.1 h1 (rs_red t0 hr1) h2 (fun c _ _ => by rw [rs_ev t0 (Int.le_refl 0) hr1, evF_tree ht0])
  have hb := rs_bound hF ht0 hr1 h3
  have hl := hok.len
  rcases h4 with ⟨a1, rfl, rfl, rfl, rfl⟩ | ⟨a1, _⟩
  · exact ⟨rfl, rfl, h3.ok hok.hv h1 a1, fun c a b => by rw [evF_tree h3.tree]; exact h2 c a b⟩
  · omega
end Go.Proofs.YthdofdglbdfkkaaDoor
