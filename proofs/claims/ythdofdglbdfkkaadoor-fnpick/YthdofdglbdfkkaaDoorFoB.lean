/-
  Forests as data: what a place says of a number; what is put; what a rule makes of two.
-/
import Derived.Test.YthdofdglbdfkkaaDoorRows
import Derived.Test.YthdofdglbdfkkaaDoorFoA
namespace Go.Proofs.YthdofdglbdfkkaaDoor
open Go.ChangeShapes Go.WideShapes Go.ChangeAt Go.RowKit Go.Maps Go.ChangeMaps
set_option linter.unusedVariables false
set_option maxRecDepth 100000

/-- A place of a list of nodes. -/
def InF (F : List BN) (p : Int) : Prop := 0 ≤ p ∧ p < (F.length : Int) + 2
open Classical in
/-- What a place says of a number. -/
noncomputable def evF (F : List BN) (p c : Int) : Bool := decide (EndsAt F c p 1)
open Classical in
theorem evF_tree {F : List BN} {p c : Int} {t : DT} (h : TreeOf F p t) : evF F p c = t.ev c := by
  unfold evF
  have e := h.has (c := c)
  unfold HasP at e
  cases ht : t.ev c with
  | true => rw [ht] at e; exact decide_eq_true (e.2 rfl)
  | false => rw [ht] at e; exact decide_eq_false (fun hh => by have := e.1 hh; cases this)
theorem evF_0 (F : List BN) (c : Int) : evF F 0 c = false := evF_tree TreeOf.no
theorem evF_1 (F : List BN) (c : Int) : evF F 1 c = true := evF_tree TreeOf.yes
open Classical in
theorem evF_has {F : List BN} {p c : Int} : evF F p c = true ↔ HasP F p c := by
  unfold evF HasP
  exact decide_eq_true_iff
theorem InF.tree {vars : Int} {F : List BN} {p : Int} (hF : Frs vars F) (h : InF F p) : ∃ t, TreeOf F p t ∧ t.Red vars (vAt vars F p) := TreeOf.total hF p.toNat p (by have := h.1; omega) h.1 h.2
theorem InF.app {F : List BN} {p : Int} (h : InF F p) (G : List BN) : InF (F ++ G) p := ⟨h.1, by have := h.2; rw [List.length_append]; omega⟩
theorem InF.no (F : List BN) : InF F 0 := ⟨by omega, by omega⟩
theorem InF.yes (F : List BN) : InF F 1 := ⟨by omega, by omega⟩
theorem evF_app {vars : Int} {F : List BN} {p : Int} (hF : Frs vars F) (h : InF F p) (G : List BN) (c : Int) : evF (F ++ G) p c = evF F p c := by
  obtain ⟨t, ht, -⟩ := h.tree hF
  rw [evF_tree ht, evF_tree (ht.app G)]
theorem evF_node {vars : Int} {F : List BN} {k : Nat} (hF : Frs vars F) (hk : k < F.length) (c : Int) : evF F ((k : Int) + 2) c = if bitN c (F.getD k default).v = 1 then evF F (F.getD k default).hi c else evF F (F.getD k default).lo c := by
  obtain ⟨f1, f2, f3, f4, -, -⟩ := hF.fine k hk
  obtain ⟨l, hl, -⟩ := InF.tree hF (p := (F.getD k default).lo) ⟨f3.1, by omega⟩
  obtain ⟨h, hh, -⟩ := InF.tree hF (p := (F.getD k default).hi) ⟨f4.1, by omega⟩
  rw [evF_tree (TreeOf.node k hk hl hh), evF_tree hl, evF_tree hh]
  simp only [DT.ev]
/-- Two places of one meaning are one place. -/
theorem red_uniq {vars : Int} {t s : DT} (hv : 0 ≤ vars) (ht : t.Red vars 0) (hs : s.Red vars 0) (h : ∀ c, t.ev c = s.ev c) : t = s := by
  have e1 := canon_uniq (vars := vars) (T := fun c => t.ev c) vars.toNat 0 0 t (by omega) (by omega) ht (by omega) (by decide) (fun c _ _ _ => rfl)
  have e2 := canon_uniq (vars := vars) (T := fun c => t.ev c) vars.toNat 0 0 s (by omega) (by omega) hs (by omega) (by decide) (fun c _ _ _ => (h c).symm)
  rw [← e1, ← e2]
theorem vAt_nonneg {vars : Int} {F : List BN} {p : Int} (hv : 0 ≤ vars) (hF : Frs vars F) (h : InF F p) : 0 ≤ vAt vars F p ∧ vAt vars F p ≤ vars := by
  unfold vAt
  split
  · exact ⟨hv, Int.le_refl _⟩
  · have := (hF.fine (p - 2).toNat (by have := h.2; omega)).1
    exact ⟨this.1, by omega⟩
/-- One that is put. -/
structure PutF (vars v lo hi : Int) (F F' : List BN) (p : Int) : Prop where
  ext : ∃ G, F' = F ++ G ∧ G.length ≤ 1
  frs : Frs vars F'
  inn : InF F' p
  ev : ∀ c, evF F' p c = if bitN c v = 1 then evF F hi c else evF F lo c
  lev : v ≤ vAt vars F' p
theorem PutF.same {vars v lo : Int} {F : List BN} (hF : Frs vars F) (h : InF F lo) (hv : v < vAt vars F lo) : PutF vars v lo lo F F lo :=
  ⟨⟨[], by simp, by simp⟩, hF, h, fun c => by split <;> rfl, by omega⟩
theorem PutF.found {vars v lo hi : Int} {F : List BN} (hF : Frs vars F) {k : Nat} (hk : k < F.length) (e : F.getD k default = ⟨v, lo, hi⟩) : PutF vars v lo hi F F ((k : Int) + 2) :=
  ⟨⟨[], by simp, by simp⟩, hF, ⟨by omega, by omega⟩, fun c => by rw [evF_node hF hk, e], by rw [vAt_nd, e]; exact Int.le_refl _⟩
theorem PutF.fresh {vars v lo hi : Int} {F : List BN} (hF : Frs vars F) (hv : 0 ≤ v ∧ v < vars) (hl : InF F lo) (hh : InF F hi) (hne : lo ≠ hi) (hvl : v < vAt vars F lo) (hvh : v < vAt vars F hi)
    (hno : ∀ j : Nat, j < F.length → F.getD j default ≠ ⟨v, lo, hi⟩) : PutF vars v lo hi F (F ++ [⟨v, lo, hi⟩]) ((F.length : Int) + 2) := by
  have F2 : Frs vars (F ++ [⟨v, lo, hi⟩]) := hF.put hv hl hh hne hvl hvh hno
  have e := getD_last F ⟨v, lo, hi⟩
  have hk : F.length < (F ++ [(⟨v, lo, hi⟩ : BN)]).length := by simp
  refine ⟨⟨[_], rfl, by simp⟩, F2, ⟨by omega, by simp; omega⟩, fun c => ?_, ?_⟩
  · rw [evF_node F2 hk, e]
    simp only
    rw [evF_app hF hl, evF_app hF hh]
  · rw [vAt_nd, e]; exact Int.le_refl _
/-- What a rule makes of two. -/
def rb (r a b : Int) : Int := r / 2 ^ (2 * a + b).toNat % 2
def rl (r : Int) (x y : Bool) : Bool := rb r (bI x) (bI y) == 1
def isRule (r : Int) : Prop := r = 8 ∨ r = 14 ∨ r = 6
theorem rl_and (x y : Bool) : rl 8 x y = (x && y) := by cases x <;> cases y <;> decide
theorem rl_or (x y : Bool) : rl 14 x y = (x || y) := by cases x <;> cases y <;> decide
theorem rl_xor (x y : Bool) : rl 6 x y = (x != y) := by cases x <;> cases y <;> decide
theorem rl_comm {r : Int} (hr : isRule r) (x y : Bool) : rl r x y = rl r y x := by
  rcases hr with rfl | rfl | rfl <;> cases x <;> cases y <;> decide
theorem rb_01 {r a b : Int} : rb r a b = 0 ∨ rb r a b = 1 := by unfold rb; omega
/-- The place that a rule makes of two. -/
structure PairF (vars r a b : Int) (F : List BN) (p : Int) : Prop where
  rule : isRule r
  ia : InF F a
  ib : InF F b
  inn : InF F p
  ev : ∀ c, evF F p c = rl r (evF F a c) (evF F b c)
  lev : min (vAt vars F a) (vAt vars F b) ≤ vAt vars F p
theorem PairF.app {vars r a b : Int} {F : List BN} {p : Int} (h : PairF vars r a b F p) (hF : Frs vars F) (G : List BN) : PairF vars r a b (F ++ G) p :=
  ⟨h.rule, h.ia.app G, h.ib.app G, h.inn.app G, fun c => by rw [evF_app hF h.inn, evF_app hF h.ia, evF_app hF h.ib, h.ev], by rw [vAt_app h.inn.2, vAt_app h.ia.2, vAt_app h.ib.2]; exact h.lev⟩
theorem PairF.swap {vars r a b : Int} {F : List BN} {p : Int} (h : PairF vars r a b F p) : PairF vars r b a F p :=
  ⟨h.rule, h.ib, h.ia, h.inn, fun c => by rw [h.ev, rl_comm h.rule], by have := h.lev; omega⟩
/-- .. without a node. -/
def plainOk (r a b : Int) : Bool :=
  if b < 2 then true else if a < 2 then (rb r a 0 == rb r a 1) || (rb r a 1 == 1) else if a = b then (rb r 0 0 == rb r 1 1) || (rb r 1 1 == 1) else false
def plainAt (r a b : Int) : Int :=
  if b < 2 then rb r a b else if a < 2 then (if rb r a 0 = rb r a 1 then rb r a 1 else if rb r a 1 = 1 then b else 0) else if a = b then (if rb r 0 0 = rb r 1 1 then rb r 1 1 else if rb r 1 1 = 1 then b else 0) else 0
theorem ev_small {F : List BN} {a : Int} (h0 : 0 ≤ a) (h : a < 2) (c : Int) : bI (evF F a c) = a := by
  have : a = 0 ∨ a = 1 := by omega
  rcases this with rfl | rfl
  · rw [evF_0]; rfl
  · rw [evF_1]; rfl
theorem vAt_small {vars : Int} {F : List BN} {p : Int} (h : p < 2) : vAt vars F p = vars := if_pos h
theorem evF_rb {F : List BN} {r a b c : Int} : evF F (rb r a b) c = (rb r a b == 1) := by
  rcases rb_01 (r := r) (a := a) (b := b) with h | h <;> rw [h]
  · rw [evF_0]; rfl
  · rw [evF_1]; rfl
theorem plain_pair {vars r a b : Int} {F : List BN} (hv : 0 ≤ vars) (hF : Frs vars F) (hr : isRule r) (ha : InF F a) (hb : InF F b) (hab : a ≤ b) (h : plainOk r a b = true) : PairF vars r a b F (plainAt r a b) := by
  have h01 : ∀ x y : Int, InF F (rb r x y) := fun x y => by rcases rb_01 (r := r) (a := x) (b := y) with h | h <;> rw [h]; exact InF.no F; exact InF.yes F
  have hlev : ∀ x y : Int, min (vAt vars F a) (vAt vars F b) ≤ vAt vars F (rb r x y) := fun x y => by
    rw [vAt_small (p := rb r x y) (by rcases rb_01 (r := r) (a := x) (b := y) with h | h <;> omega)]
    have := (vAt_nonneg hv hF ha).2
    omega
  unfold plainOk at h
  unfold plainAt
  by_cases h1 : b < 2
  · rw [if_pos h1]
    refine ⟨hr, ha, hb, h01 _ _, fun c => ?_, hlev _ _⟩
    rw [evF_rb]
    unfold rl
    rw [ev_small ha.1 (by omega), ev_small hb.1 h1]
  rw [if_neg h1] at h ⊢
  by_cases h2 : a < 2
  · rw [if_pos h2] at h ⊢
    by_cases h3 : rb r a 0 = rb r a 1
    · rw [if_pos h3]
      refine ⟨hr, ha, hb, h01 _ _, fun c => ?_, hlev _ _⟩
      rw [evF_rb]
      unfold rl
      rw [ev_small ha.1 h2]
      cases evF F b c with
      | true => rfl
      | false => show (rb r a 1 == 1) = (rb r a 0 == 1); rw [h3]
    · rw [if_neg h3]
      have h4 : rb r a 1 = 1 := by simpa [h3] using h
      rw [if_pos h4]
      have h5 : rb r a 0 = 0 := by rcases rb_01 (r := r) (a := a) (b := 0) with h | h <;> omega
      refine ⟨hr, ha, hb, hb, fun c => ?_, by omega⟩
      unfold rl
      rw [ev_small ha.1 h2]
      cases evF F b c with
      | true => show true = (rb r a 1 == 1); rw [h4]; rfl
      | false => show false = (rb r a 0 == 1); rw [h5]; rfl
  rw [if_neg h2] at h ⊢
  by_cases h6 : a = b
  · rw [if_pos h6] at h ⊢
    by_cases h3 : rb r 0 0 = rb r 1 1
    · rw [if_pos h3]
      refine ⟨hr, ha, hb, h01 _ _, fun c => ?_, hlev _ _⟩
      rw [evF_rb, h6]
      unfold rl
      cases evF F b c with
      | true => rfl
      | false => show (rb r 1 1 == 1) = (rb r 0 0 == 1); rw [h3]
    · rw [if_neg h3]
      have h4 : rb r 1 1 = 1 := by simpa [h3] using h
      rw [if_pos h4]
      have h5 : rb r 0 0 = 0 := by rcases rb_01 (r := r) (a := 0) (b := 0) with h | h <;> omega
      refine ⟨hr, ha, hb, hb, fun c => ?_, by omega⟩
      rw [h6]
      unfold rl
      cases evF F b c with
      | true => show true = (rb r 1 1 == 1); rw [h4]; rfl
      | false => show false = (rb r 0 0 == 1); rw [h5]; rfl
  · rw [if_neg h6] at h; cases h
/-- Where a place leads by a variable. -/
def wayL (F : List BN) (p v : Int) : Int := if p < 2 ∨ (F.getD (p - 2).toNat default).v ≠ v then p else (F.getD (p - 2).toNat default).lo
def wayH (F : List BN) (p v : Int) : Int := if p < 2 ∨ (F.getD (p - 2).toNat default).v ≠ v then p else (F.getD (p - 2).toNat default).hi
theorem ways_ok {vars : Int} {F : List BN} {p v : Int} (hF : Frs vars F) (h : InF F p) (hv : v ≤ vAt vars F p) (hvv : v < vars) :
    InF F (wayL F p v) ∧ InF F (wayH F p v) ∧ v < vAt vars F (wayL F p v) ∧ v < vAt vars F (wayH F p v) ∧ ∀ c, evF F p c = if bitN c v = 1 then evF F (wayH F p v) c else evF F (wayL F p v) c := by
  unfold wayL wayH
  by_cases h1 : p < 2 ∨ (F.getD (p - 2).toNat default).v ≠ v
  · rw [if_pos h1, if_pos h1]
    have : v < vAt vars F p := by
      unfold vAt at hv ⊢
      by_cases h2 : p < 2
      · rw [if_pos h2]; exact hvv
      · rw [if_neg h2] at hv ⊢
        rcases h1 with h1 | h1
        · exact absurd h1 h2
        · omega
    exact ⟨h, h, this, this, fun c => by split <;> rfl⟩
  · rw [if_neg h1, if_neg h1]
    have h2 : ¬ p < 2 := fun hh => h1 (.inl hh)
    have h3 : (F.getD (p - 2).toNat default).v = v := Classical.not_not.1 (fun hh => h1 (.inr hh))
    obtain ⟨k, rfl⟩ : ∃ k : Nat, p = (k : Int) + 2 := ⟨(p - 2).toNat, by omega⟩
    have e : ((k : Int) + 2 - 2).toNat = k := by omega
    rw [e] at h3 ⊢
    have hk : k < F.length := by have := h.2; omega
    obtain ⟨f1, f2, f3, f4, f5, f6⟩ := hF.fine k hk
    rw [h3] at f5 f6
    exact ⟨⟨f3.1, by omega⟩, ⟨f4.1, by omega⟩, f5, f6, fun c => by rw [evF_node hF hk, h3]⟩
/-- The variable that is asked first. -/
def firstV (F : List BN) : Int → List Int → Int
  | acc, [] => acc
  | acc, p :: ps => firstV F (if 2 ≤ p then min acc (F.getD (p - 2).toNat default).v else acc) ps
theorem firstV_two {vars : Int} {F : List BN} {a b : Int} (hF : Frs vars F) (hv : vars ≤ 13) (ha : InF F a) (hb : InF F b) (h2 : 2 ≤ a ∨ 2 ≤ b) :
    firstV F 13 [a, b] = min (vAt vars F a) (vAt vars F b) ∧ min (vAt vars F a) (vAt vars F b) < vars := by
  have key : ∀ p, InF F p → 2 ≤ p → vAt vars F p = (F.getD (p - 2).toNat default).v ∧ vAt vars F p < vars := fun p hp h => by
    unfold vAt
    rw [if_neg (by omega)]
    exact ⟨rfl, (hF.fine _ (by have := hp.2; omega)).1.2⟩
  unfold firstV firstV firstV
  by_cases h1 : 2 ≤ a
  · obtain ⟨e1, e2⟩ := key a ha h1
    rw [if_pos h1]
    by_cases h3 : 2 ≤ b
    · obtain ⟨e3, e4⟩ := key b hb h3
      rw [if_pos h3]; omega
    · rw [if_neg h3, vAt_small (p := b) (by omega)]; omega
  · rw [if_neg h1]
    have h3 : 2 ≤ b := by omega
    obtain ⟨e3, e4⟩ := key b hb h3
    rw [if_pos h3, vAt_small (p := a) (by omega)]; omega
/-- A node whose ways are the pairs of both places' ways. -/
theorem pair_put {vars r a b v pl ph p : Int} {F F1 F2 F3 : List BN} (hF : Frs vars F) (hr : isRule r) (ha : InF F a) (hb : InF F b) (hv : v = min (vAt vars F a) (vAt vars F b)) (hvv : v < vars)
    (e1 : ∃ G, F1 = F ++ G) (h1 : Frs vars F1) (p1 : PairF vars r (wayL F a v) (wayL F b v) F1 pl) (e2 : ∃ G, F2 = F1 ++ G) (h2 : Frs vars F2) (p2 : PairF vars r (wayH F a v) (wayH F b v) F2 ph) (h3 : PutF vars v pl ph F2 F3 p) : PairF vars r a b F3 p := by
  obtain ⟨G1, rfl⟩ := e1
  obtain ⟨G2, rfl⟩ := e2
  obtain ⟨G3, rfl, -⟩ := h3.ext
  obtain ⟨a1, a2, a3, a4, a5⟩ := ways_ok hF ha (v := v) (by omega) hvv
  obtain ⟨b1, b2, b3, b4, b5⟩ := ways_ok hF hb (v := v) (by omega) hvv
  refine ⟨hr, ((ha.app G1).app G2).app G3, ((hb.app G1).app G2).app G3, h3.inn, fun c => ?_, ?_⟩
  · rw [h3.ev, evF_app h2 ((ha.app G1).app G2), evF_app h2 ((hb.app G1).app G2), evF_app h1 (ha.app G1), evF_app h1 (hb.app G1), evF_app hF ha, evF_app hF hb, a5, b5]
    split
    · rw [p2.ev, evF_app h1 (a2.app G1), evF_app hF a2, evF_app h1 (b2.app G1), evF_app hF b2]
    · rw [evF_app h1 p1.inn, p1.ev, evF_app hF a1, evF_app hF b1]
  · have := h3.lev
    rw [vAt_app ((ha.app G1).app G2).2, vAt_app ((hb.app G1).app G2).2, vAt_app (ha.app G1).2, vAt_app (hb.app G1).2, vAt_app ha.2, vAt_app hb.2]
    omega
theorem pair_lev {vars r a b v pl ph : Int} {F F1 F2 : List BN} (hF : Frs vars F) (ha : InF F a) (hb : InF F b) (hv : v = min (vAt vars F a) (vAt vars F b)) (hvv : v < vars)
    (e1 : ∃ G, F1 = F ++ G) (p1 : PairF vars r (wayL F a v) (wayL F b v) F1 pl) (e2 : ∃ G, F2 = F1 ++ G) (p2 : PairF vars r (wayH F a v) (wayH F b v) F2 ph) : InF F2 pl ∧ InF F2 ph ∧ v < vAt vars F2 pl ∧ v < vAt vars F2 ph := by
  obtain ⟨G1, rfl⟩ := e1
  obtain ⟨G2, rfl⟩ := e2
  obtain ⟨a1, a2, a3, a4, a5⟩ := ways_ok hF ha (v := v) (by omega) hvv
  obtain ⟨b1, b2, b3, b4, b5⟩ := ways_ok hF hb (v := v) (by omega) hvv
  have l1 := p1.lev
  have l2 := p2.lev
  rw [vAt_app a1.2, vAt_app b1.2] at l1
  rw [vAt_app (a2.app G1).2, vAt_app (b2.app G1).2, vAt_app a2.2, vAt_app b2.2] at l2
  refine ⟨p1.inn.app G2, p2.inn, ?_, by omega⟩
  rw [vAt_app p1.inn.2]
  omega
end Go.Proofs.YthdofdglbdfkkaaDoor
