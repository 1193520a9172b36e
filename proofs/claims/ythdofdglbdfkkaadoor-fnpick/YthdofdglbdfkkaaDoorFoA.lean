/-
  Trees: what a place in a list of nodes leads to; in which order the nodes of a tree are done.
-/
import Derived.Test.YthdofdglbdfkkaaDoorRows
import Derived.Test.YthdofdglbdfkkaaDoorBdM
import Derived.Test.YthdofdglbdfkkaaDoorBdE
namespace Go.Proofs.YthdofdglbdfkkaaDoor
open Go.ChangeShapes Go.WideShapes Go.ChangeAt Go.RowKit Go.Maps Go.ChangeMaps
set_option linter.unusedVariables false
set_option maxRecDepth 100000

/-- A decision tree. -/
inductive DT where
  | leaf (b : Bool)
  | node (v : Int) (l h : DT)
def DT.sz : DT → Nat
  | .leaf _ => 0
  | .node _ l h => l.sz + h.sz + 1
/-- What it says of a number. -/
def DT.ev (c : Int) : DT → Bool
  | .leaf b => b
  | .node v l h => if bitN c v = 1 then h.ev c else l.ev c
/-- It asks its variables in order, from one on, each of them for something. -/
def DT.Red (vars : Int) : DT → Int → Prop
  | .leaf _, _ => True
  | .node v l h, k => (k ≤ v ∧ v < vars) ∧ l ≠ h ∧ l.Red vars (v + 1) ∧ h.Red vars (v + 1)
theorem DT.Red.mono {vars : Int} {t : DT} {k k' : Int} (h : t.Red vars k) (hk : k' ≤ k) : t.Red vars k' := by
  cases t with
  | leaf b => trivial
  | node v l r => exact ⟨⟨by have := h.1.1; omega, h.1.2⟩, h.2⟩
open Classical in
/-- The tree of a table. -/
noncomputable def canon (T : Int → Bool) : Nat → Int → Int → DT
  | 0, _, x => .leaf (T x)
  | n + 1, v, x => if canon T n (v + 1) x = canon T n (v + 1) (x + 2 ^ v.toNat) then canon T n (v + 1) x else .node v (canon T n (v + 1) x) (canon T n (v + 1) (x + 2 ^ v.toNat))
theorem mod_two_mul (c m : Int) (hm : 0 < m) : c % (m * 2) = c % m + m * (c / m % 2) := by
  have h1 : c = m * (c / m) + c % m := (Int.mul_ediv_add_emod c m).symm
  have h2 : c / m = 2 * (c / m / 2) + c / m % 2 := (Int.mul_ediv_add_emod (c / m) 2).symm
  have h3 := Int.emod_nonneg c (Int.ne_of_gt hm)
  have h4 := Int.emod_lt_of_pos c hm
  have h5 : c / m % 2 = 0 ∨ c / m % 2 = 1 := by omega
  have e : c = c % m + m * (c / m % 2) + m * 2 * (c / m / 2) := by
    have e1 : m * (c / m) = m * 2 * (c / m / 2) + m * (c / m % 2) := by
      have e2 : m * (c / m) = m * (2 * (c / m / 2) + c / m % 2) := congrArg (m * ·) h2
      rw [e2, Int.mul_add, Int.mul_assoc]
    omega
  have hlt : c % m + m * (c / m % 2) < m * 2 := by rcases h5 with h5 | h5 <;> rw [h5] <;> omega
  have hge : 0 ≤ c % m + m * (c / m % 2) := by rcases h5 with h5 | h5 <;> rw [h5] <;> omega
  have e3 : c % (m * 2) = (c % m + m * (c / m % 2) + m * 2 * (c / m / 2)) % (m * 2) := by rw [← e]
  rw [e3, Int.add_mul_emod_self_left]
  exact Int.emod_eq_of_lt hge hlt
theorem pow_step (v : Int) (hv : 0 ≤ v) : (2 : Int) ^ (v + 1).toNat = 2 ^ v.toNat * 2 := by
  have : (v + 1).toNat = v.toNat + 1 := by omega
  rw [this, Int.pow_succ]
theorem pow_pos' (n : Nat) : (0 : Int) < 2 ^ n := by
  have : ∀ n : Nat, (0 : Int) < 2 ^ n := fun n => by
    induction n with
    | zero => simp
    | succ n ih => rw [Int.pow_succ]; omega
  exact this n
theorem split_mod {c v x : Int} (hv : 0 ≤ v) (hx0 : 0 ≤ x) (hx1 : x < 2 ^ v.toNat) :
    (c % 2 ^ (v + 1).toNat = x → c % 2 ^ v.toNat = x ∧ ¬ bitN c v = 1) ∧ (c % 2 ^ (v + 1).toNat = x + 2 ^ v.toNat → c % 2 ^ v.toNat = x ∧ bitN c v = 1) := by
  unfold bitN
  rw [pow_step v hv, mod_two_mul c _ (pow_pos' _)]
  generalize (2 : Int) ^ v.toNat = m at *
  have h3 := Int.emod_nonneg c (show m ≠ 0 by omega)
  have h4 := Int.emod_lt_of_pos c (show 0 < m by omega)
  have h5 : c / m % 2 = 0 ∨ c / m % 2 = 1 := by omega
  rcases h5 with h5 | h5 <;> rw [h5] <;> constructor <;> intro h <;> constructor <;> omega
/-- A tree that asks in order is the tree of its table. -/
theorem canon_uniq {vars : Int} {T : Int → Bool} : ∀ (n : Nat) (v x : Int) (t : DT), 0 ≤ v → v + n = vars → t.Red vars v → 0 ≤ x → x < 2 ^ v.toNat →
    (∀ c, 0 ≤ c → c < 2 ^ vars.toNat → c % 2 ^ v.toNat = x → t.ev c = T c) → canon T n v x = t := by
  intro n
  induction n with
  | zero =>
    intro v x t hv hn hr hx0 hx1 hT
    have hvv : v = vars := by omega
    subst hvv
    have := hT x hx0 hx1 (Int.emod_eq_of_lt hx0 hx1)
    cases t with
    | leaf b => simp only [canon]; rw [← this]; rfl
    | node v' l h => have := hr.1; omega
  | succ n ih =>
    intro v x t hv hn hr hx0 hx1 hT
    have hp := pow_step v hv
    have hpp := pow_pos' v.toNat
    have key : ∀ s : DT, s.Red vars (v + 1) → (∀ c, 0 ≤ c → c < 2 ^ vars.toNat → c % 2 ^ v.toNat = x → ¬ bitN c v = 1 → s.ev c = T c) → canon T n (v + 1) x = s := fun s hs hc =>
      ih (v + 1) x s (by omega) (by omega) hs hx0 (by rw [hp]; omega) (fun c h0 h1 h2 => by
        have := (split_mod hv hx0 hx1).1 h2
        exact hc c h0 h1 this.1 this.2)
    have key2 : ∀ s : DT, s.Red vars (v + 1) → (∀ c, 0 ≤ c → c < 2 ^ vars.toNat → c % 2 ^ v.toNat = x → bitN c v = 1 → s.ev c = T c) → canon T n (v + 1) (x + 2 ^ v.toNat) = s := fun s hs hc =>
      ih (v + 1) (x + 2 ^ v.toNat) s (by omega) (by omega) hs (by omega) (by rw [hp]; omega) (fun c h0 h1 h2 => by
        have := (split_mod hv hx0 hx1).2 h2
        exact hc c h0 h1 this.1 this.2)
    have same : ∀ s : DT, s.Red vars (v + 1) → (∀ c, 0 ≤ c → c < 2 ^ vars.toNat → c % 2 ^ v.toNat = x → s.ev c = T c) → canon T (n + 1) v x = s := fun s hs hc => by
      have e1 := key s hs (fun c h0 h1 h2 _ => hc c h0 h1 h2)
      have e2 := key2 s hs (fun c h0 h1 h2 _ => hc c h0 h1 h2)
      rw [canon, e1, e2, if_pos rfl]
    cases t with
    | leaf b => exact same _ trivial hT
    | node v' l h =>
      obtain ⟨⟨h1, h2⟩, h3, h4, h5⟩ := hr
      by_cases hvv : v' = v
      · subst hvv
        have e1 := key l h4 (fun c h0 h1 h2 h6 => by rw [← hT c h0 h1 h2]; simp only [DT.ev]; rw [if_neg h6])
        have e2 := key2 h h5 (fun c h0 h1 h2 h6 => by rw [← hT c h0 h1 h2]; simp only [DT.ev]; rw [if_pos h6])
        rw [canon, e1, e2, if_neg h3]
      · exact same _ ⟨⟨by omega, h2⟩, h3, h4, h5⟩ hT

/-- The tree of a place. -/
inductive TreeOf (ns : List BN) : Int → DT → Prop
  | no : TreeOf ns 0 (.leaf false)
  | yes : TreeOf ns 1 (.leaf true)
  | node (k : Nat) (hk : k < ns.length) {l h : DT} (hl : TreeOf ns (ns.getD k default).lo l) (hh : TreeOf ns (ns.getD k default).hi h) : TreeOf ns ((k : Int) + 2) (.node (ns.getD k default).v l h)
theorem TreeOf.rng {ns : List BN} {p : Int} {t : DT} (h : TreeOf ns p t) : 0 ≤ p ∧ p < (ns.length : Int) + 2 := by
  cases h <;> omega
theorem TreeOf.small {ns : List BN} {p : Int} {b : Bool} (h : TreeOf ns p (.leaf b)) : p = if b then 1 else 0 := by
  cases h <;> rfl
theorem TreeOf.split {ns : List BN} {p : Int} {v : Int} {l h : DT} (ht : TreeOf ns p (.node v l h)) :
    ∃ k : Nat, k < ns.length ∧ p = (k : Int) + 2 ∧ v = (ns.getD k default).v ∧ TreeOf ns (ns.getD k default).lo l ∧ TreeOf ns (ns.getD k default).hi h := by
  cases ht with
  | node k hk hl hh => exact ⟨k, hk, rfl, rfl, hl, hh⟩
theorem getD_app {ns ms : List BN} {k : Nat} (hk : k < ns.length) : (ns ++ ms).getD k default = ns.getD k default := by
  simp only [List.getD_eq_getElem?_getD, List.getElem?_append_left hk]
theorem getD_last (ns : List BN) (x : BN) : (ns ++ [x]).getD ns.length default = x := by
  simp [List.getD_eq_getElem?_getD]
theorem TreeOf.app {ns : List BN} {p : Int} {t : DT} (h : TreeOf ns p t) (ms : List BN) : TreeOf (ns ++ ms) p t := by
  induction h with
  | no => exact .no
  | yes => exact .yes
  | node k hk _ _ ih1 ih2 =>
    have e := getD_app (ms := ms) hk
    rw [← e] at ih1 ih2
    rw [← e]
    exact .node k (by simp; omega) ih1 ih2
theorem TreeOf.same {ns : List BN} {p : Int} {t : DT} (h : TreeOf ns p t) : ∀ {s : DT}, TreeOf ns p s → s = t := by
  induction h with
  | no => intro s k; generalize hq : (0 : Int) = q at k; cases k <;> first | rfl | omega
  | yes => intro s k; generalize hq : (1 : Int) = q at k; cases k <;> first | rfl | omega
  | node k hk _ _ ih1 ih2 =>
    intro s j
    generalize hq : (k : Int) + 2 = q at j
    cases j with
    | no => omega
    | yes => omega
    | node k' hk' a b =>
      obtain rfl : k = k' := by omega
      rw [ih1 a, ih2 b]
/-- A forest: right nodes, none of them twice. -/
structure Frs (vars : Int) (ns : List BN) : Prop where
  fine : ∀ k, k < ns.length → nFine vars ns k
  once : ∀ x y : Nat, y < x → x < ns.length → ns.getD x default ≠ ns.getD y default
theorem Frs.nil (vars : Int) : Frs vars [] := ⟨fun k hk => by simp at hk, fun x y _ hx => by simp at hx⟩
theorem bn_ext {x y : BN} (h1 : x.v = y.v) (h2 : x.lo = y.lo) (h3 : x.hi = y.hi) : x = y := by
  cases x; cases y; simp_all
theorem Frs.node_at {vars : Int} {ns : List BN} (h : Frs vars ns) {k j : Nat} (hk : k < ns.length) (hj : j < ns.length) (e : ns.getD k default = ns.getD j default) : k = j := by
  rcases Nat.lt_trichotomy k j with hlt | rfl | hlt
  · exact absurd e.symm (h.once j k hlt hj)
  · rfl
  · exact absurd e (h.once k j hlt hk)
theorem TreeOf.place {vars : Int} {ns : List BN} (hF : Frs vars ns) {p : Int} {t : DT} (h : TreeOf ns p t) : ∀ {q : Int}, TreeOf ns q t → q = p := by
  induction h with
  | no => intro q k; exact k.small
  | yes => intro q k; exact k.small
  | node k hk _ _ ih1 ih2 =>
    intro q j
    obtain ⟨k', hk', rfl, e1, a, b⟩ := j.split
    have e2 := ih1 a
    have e3 := ih2 b
    rw [hF.node_at hk' hk (bn_ext e1.symm e2 e3)]
theorem vAt_nd {vars : Int} {ns : List BN} {k : Nat} : vAt vars ns ((k : Int) + 2) = (ns.getD k default).v := by
  unfold vAt
  rw [if_neg (by omega)]
  congr 2
  omega
theorem TreeOf.total {vars : Int} {ns : List BN} (hF : Frs vars ns) : ∀ (n : Nat) (p : Int), p ≤ n → 0 ≤ p → p < (ns.length : Int) + 2 → ∃ t, TreeOf ns p t ∧ t.Red vars (vAt vars ns p) := by
  intro n
  induction n with
  | zero => intro p h1 h2 h3; obtain rfl : p = 0 := by omega
            exact ⟨_, .no, trivial⟩
  | succ n ih =>
    intro p h1 h2 h3
    by_cases h0 : p = 0
    · subst h0; exact ⟨_, .no, trivial⟩
    by_cases h10 : p = 1
    · subst h10; exact ⟨_, .yes, trivial⟩
    obtain ⟨k, rfl⟩ : ∃ k : Nat, p = (k : Int) + 2 := ⟨(p - 2).toNat, by omega⟩
    have hk : k < ns.length := by omega
    obtain ⟨f1, f2, f3, f4, f5, f6⟩ := hF.fine k hk
    obtain ⟨l, hl, rl⟩ := ih (ns.getD k default).lo (by omega) f3.1 (by omega)
    obtain ⟨h, hh, rh⟩ := ih (ns.getD k default).hi (by omega) f4.1 (by omega)
    refine ⟨_, .node k hk hl hh, ?_⟩
    rw [vAt_nd]
    exact ⟨⟨Int.le_refl _, f1.2⟩, fun e => by subst e; exact f2 (TreeOf.place hF hh hl), rl.mono (by omega), rh.mono (by omega)⟩
theorem TreeOf.cut {vars : Int} {ns ms : List BN} (hF : Frs vars ns) {p : Int} {t : DT} (h : TreeOf (ns ++ ms) p t) (hp : p < (ns.length : Int) + 2) : TreeOf ns p t := by
  obtain ⟨s, hs, -⟩ := TreeOf.total hF p.toNat p (by have := h.rng; omega) h.rng.1 hp
  rw [(hs.app ms).same h]
  exact hs
def bI (b : Bool) : Int := if b then 1 else 0
theorem TreeOf.ends {ns : List BN} {c p : Int} {t : DT} (h : TreeOf ns p t) : EndsAt ns c p (bI (t.ev c)) := by
  induction h with
  | no => exact .done 0 (by omega)
  | yes => exact .done 1 (by omega)
  | @node k hk l h _ _ ih1 ih2 =>
    have e : ((k : Int) + 2 - 2).toNat = k := by omega
    refine .step _ _ (by omega) ?_
    unfold nxt
    rw [e]
    by_cases hb : bitN c (ns.getD k default).v = 1
    · have e1 : DT.ev c (.node (ns.getD k default).v l h) = DT.ev c h := by simp only [DT.ev]; rw [if_pos hb]
      rw [if_pos hb, e1]; exact ih2
    · have e1 : DT.ev c (.node (ns.getD k default).v l h) = DT.ev c l := by simp only [DT.ev]; rw [if_neg hb]
      rw [if_neg hb, e1]; exact ih1
theorem TreeOf.has {ns : List BN} {c p : Int} {t : DT} (h : TreeOf ns p t) : HasP ns p c ↔ t.ev c = true := by
  have e := h.ends (c := c)
  constructor
  · intro k
    cases ht : t.ev c with
    | true => rfl
    | false => rw [ht] at e; have := EndsAt.inj e k; simp [bI] at this
  · intro ht
    rw [ht] at e
    exact e

/-- A tree's nodes are put behind those that are there, each of them once, in the order in which they are done. -/
inductive Adds : DT → List BN → List BN → Int → Prop
  | leaf (b : Bool) (ns : List BN) : Adds (.leaf b) ns ns (if b then 1 else 0)
  | here {v : Int} {l h : DT} {ns : List BN} {p : Int} (ht : TreeOf ns p (.node v l h)) : Adds (.node v l h) ns ns p
  | new {v : Int} {l h : DT} {ns n1 n2 : List BN} {a b : Int} (hno : ∀ p, ¬ TreeOf ns p (.node v l h)) (hl : Adds l ns n1 a) (hh : Adds h n1 n2 b) : Adds (.node v l h) ns (n2 ++ [⟨v, a, b⟩]) ((n2.length : Int) + 2)
theorem Adds.ext {t : DT} {ns n' : List BN} {p : Int} (h : Adds t ns n' p) : ∃ ms, n' = ns ++ ms := by
  induction h with
  | leaf b ns => exact ⟨[], by simp⟩
  | here ht => exact ⟨[], by simp⟩
  | new _ _ _ ih1 ih2 =>
    obtain ⟨m1, rfl⟩ := ih1
    obtain ⟨m2, rfl⟩ := ih2
    exact ⟨_, by rw [List.append_assoc, List.append_assoc]⟩
theorem Adds.tree {t : DT} {ns n' : List BN} {p : Int} (h : Adds t ns n' p) : TreeOf n' p t := by
  induction h with
  | leaf b ns => cases b; exact .no; exact .yes
  | here ht => exact ht
  | @new v l h ns n1 n2 a b hno hl hh ih1 ih2 =>
    obtain ⟨m2, rfl⟩ := hh.ext
    have e := getD_last (n1 ++ m2) ⟨v, a, b⟩
    have t1 : TreeOf (n1 ++ m2 ++ [⟨v, a, b⟩]) a l := (ih1.app m2).app _
    have t2 : TreeOf (n1 ++ m2 ++ [⟨v, a, b⟩]) b h := ih2.app _
    have := TreeOf.node (ns := n1 ++ m2 ++ [⟨v, a, b⟩]) (n1 ++ m2).length (by simp) (l := l) (h := h) (by rw [e]; exact t1) (by rw [e]; exact t2)
    rw [e] at this
    exact this
/-- What is behind all of it: a forest stays one; what is new is no larger; each tree is added in one way. -/
theorem nFine_app {vars : Int} {ns ms : List BN} {k : Nat} (hk : k < ns.length) (h : nFine vars ns k) : nFine vars (ns ++ ms) k := by
  unfold nFine at *
  rw [getD_app hk]
  obtain ⟨f1, f2, f3, f4, f5, f6⟩ := h
  refine ⟨f1, f2, f3, f4, ?_, ?_⟩
  · unfold vAt at *
    split
    · rename_i hh; rw [if_pos hh] at f5; exact f5
    · rename_i hh; rw [if_neg hh] at f5; rw [getD_app (by omega)]; exact f5
  · unfold vAt at *
    split
    · rename_i hh; rw [if_pos hh] at f6; exact f6
    · rename_i hh; rw [if_neg hh] at f6; rw [getD_app (by omega)]; exact f6
theorem vAt_app {vars : Int} {ns ms : List BN} {p : Int} (hp : p < (ns.length : Int) + 2) : vAt vars (ns ++ ms) p = vAt vars ns p := by
  unfold vAt
  split
  · rfl
  · rw [getD_app (by omega)]
theorem TreeOf.level {vars : Int} {ns : List BN} {p k : Int} {t : DT} (h : TreeOf ns p t) (hr : t.Red vars k) (hk : k ≤ vars) : k ≤ vAt vars ns p := by
  cases h with
  | no => exact hk
  | yes => exact hk
  | node j hj _ _ => rw [vAt_nd]; exact hr.1.1
theorem Frs.put {vars : Int} {ns : List BN} (hF : Frs vars ns) {v a b : Int} (hv : 0 ≤ v ∧ v < vars) (ha : 0 ≤ a ∧ a < (ns.length : Int) + 2) (hb : 0 ≤ b ∧ b < (ns.length : Int) + 2) (hab : a ≠ b) (hva : v < vAt vars ns a) (hvb : v < vAt vars ns b)
    (hno : ∀ j : Nat, j < ns.length → ns.getD j default ≠ ⟨v, a, b⟩) : Frs vars (ns ++ [⟨v, a, b⟩]) := by
  have e := getD_last ns ⟨v, a, b⟩
  refine ⟨fun k hk => ?_, fun x y hy hx => ?_⟩
  · simp only [List.length_append, List.length_cons, List.length_nil] at hk
    rcases Nat.lt_or_ge k ns.length with h | h
    · exact nFine_app h (hF.fine k h)
    · obtain rfl : k = ns.length := by omega
      unfold nFine
      rw [e, vAt_app ha.2, vAt_app hb.2]
      exact ⟨hv, hab, ⟨ha.1, by show a ≤ _; omega⟩, ⟨hb.1, by show b ≤ _; omega⟩, hva, hvb⟩
  · simp only [List.length_append, List.length_cons, List.length_nil] at hx
    rcases Nat.lt_or_ge x ns.length with h | h
    · rw [getD_app h, getD_app (by omega)]
      exact hF.once x y hy h
    · obtain rfl : x = ns.length := by omega
      rw [e, getD_app hy]
      exact fun h => hno y hy h.symm
theorem Adds.all {vars : Int} {t : DT} {ns n' : List BN} {p : Int} (h : Adds t ns n' p) : ∀ {k : Int}, 0 ≤ k → t.Red vars k → Frs vars ns →
    Frs vars n' ∧ (∀ q s, TreeOf n' q s → t.sz < s.sz → TreeOf ns q s) := by
  induction h with
  | leaf b ns => intro k hk hr hF; exact ⟨hF, fun q s h _ => h⟩
  | here ht => intro k hk hr hF; exact ⟨hF, fun q s h _ => h⟩
  | @new v l h ns n1 n2 a b hno hl hh ih1 ih2 =>
    intro k hk hr hF
    obtain ⟨⟨r1, r2⟩, r3, r4, r5⟩ := hr
    obtain ⟨F1, o1⟩ := ih1 (k := v + 1) (by omega) r4 hF
    obtain ⟨F2, o2⟩ := ih2 (k := v + 1) (by omega) r5 F1
    obtain ⟨m2, e2⟩ := hh.ext
    have ta : TreeOf n2 a l := by rw [e2]; exact hl.tree.app m2
    have tb := hh.tree
    have old : ∀ q s, TreeOf n2 q s → l.sz + h.sz + 1 ≤ s.sz → TreeOf ns q s := fun q s hs hz => o1 q s (o2 q s hs (by omega)) (by omega)
    have F3 : Frs vars (n2 ++ [⟨v, a, b⟩]) := F2.put ⟨by omega, r2⟩ ta.rng tb.rng (fun e => r3 (by subst e; exact tb.same ta)) (by have := ta.level r4 (by omega); omega) (by have := tb.level r5 (by omega); omega) (fun j hj e => by
      have := TreeOf.node (ns := n2) j hj (l := l) (h := h) (by rw [e]; exact ta) (by rw [e]; exact tb)
      rw [e] at this
      exact hno _ (old _ _ this (by simp [DT.sz])))
    refine ⟨F3, fun q s hs hz => ?_⟩
    simp only [DT.sz] at hz
    have hq := hs.rng
    simp only [List.length_append, List.length_cons, List.length_nil] at hq
    rcases Int.lt_or_le q ((n2.length : Int) + 2) with hlt | hge
    · exact old q s (hs.cut F2 hlt) (by omega)
    · obtain rfl : q = (n2.length : Int) + 2 := by omega
      have := (Adds.new hno hl hh).tree.same hs
      rw [this] at hz
      simp only [DT.sz] at hz
      omega
theorem Adds.have {vars : Int} {t : DT} {ns n' : List BN} {p q : Int} (hF : Frs vars ns) (ht : TreeOf ns q t) (h : Adds t ns n' p) : n' = ns ∧ p = q := by
  cases h with
  | leaf b => exact ⟨rfl, ht.small.symm⟩
  | here ht' => exact ⟨rfl, TreeOf.place hF ht ht'⟩
  | new hno _ _ => exact absurd ht (hno _)
theorem Adds.inj {vars : Int} {t : DT} {ns n' : List BN} {p : Int} (h : Adds t ns n' p) : ∀ {k : Int} {m' : List BN} {q : Int}, 0 ≤ k → t.Red vars k → Frs vars ns → Adds t ns m' q → n' = m' ∧ p = q := by
  induction h with
  | leaf b ns => intro k m' q _ _ _ h'; cases h'; exact ⟨rfl, rfl⟩
  | here ht =>
    intro k m' q _ _ hF h'
    have := Adds.have hF ht h'
    exact ⟨this.1.symm, this.2.symm⟩
  | @new v l h ns n1 n2 a b hno hl hh ih1 ih2 =>
    intro k m' q hk hr hF h'
    obtain ⟨⟨r1, r2⟩, r3, r4, r5⟩ := hr
    cases h' with
    | here ht' => exact absurd ht' (hno _)
    | new hno' hl' hh' =>
      obtain ⟨e1, e2⟩ := ih1 (k := v + 1) (by omega) r4 hF hl'
      subst e1; subst e2
      obtain ⟨e3, e4⟩ := ih2 (k := v + 1) (by omega) r5 (hl.all (k := v + 1) (by omega) r4 hF).1 hh'
      subst e3; subst e4
      exact ⟨rfl, rfl⟩
theorem Adds.total (t : DT) : ∀ ns : List BN, ∃ n' p, Adds t ns n' p := by
  induction t with
  | leaf b => exact fun ns => ⟨_, _, .leaf b ns⟩
  | node v l h ih1 ih2 =>
    intro ns
    by_cases hp : ∃ p, TreeOf ns p (.node v l h)
    · obtain ⟨p, hp⟩ := hp
      exact ⟨_, _, .here hp⟩
    · obtain ⟨n1, a, h1⟩ := ih1 ns
      obtain ⟨n2, b, h2⟩ := ih2 n1
      exact ⟨_, _, .new (fun p h => hp ⟨p, h⟩) h1 h2⟩
theorem Adds.of {t : DT} {ns : List BN} {p : Int} (h : TreeOf ns p t) : Adds t ns ns p := by
  cases t with
  | leaf b => rw [h.small]; exact .leaf b ns
  | node v l r => exact .here h
/-- The maker's step: both sides are made, and they are one. -/
theorem Adds.both {vars : Int} {l h : DT} {ns n1 n2 : List BN} {a b : Int} {k : Int} (hk : 0 ≤ k) (hF : Frs vars ns) (rl : l.Red vars k) (rh : h.Red vars k) (h1 : Adds l ns n1 a) (h2 : Adds h n1 n2 b) (hab : a = b) : l = h ∧ Adds l ns n2 a := by
  have F1 := (h1.all hk rl hF).1
  have F2 := (h2.all hk rh F1).1
  obtain ⟨m2, e2⟩ := h2.ext
  have ta : TreeOf n2 a l := by rw [e2]; exact h1.tree.app m2
  have tb := h2.tree
  rw [← hab] at tb
  have e := tb.same ta
  subst e
  have := Adds.have F1 h1.tree h2
  exact ⟨rfl, by rw [this.1]; exact h1⟩
/-- .. they differ, and the node is there. -/
theorem Adds.found {vars : Int} {l h : DT} {ns n1 n2 : List BN} {a b : Int} {v : Int} (hv : 0 ≤ v) (hF : Frs vars ns) (rl : l.Red vars (v + 1)) (rh : h.Red vars (v + 1)) (h1 : Adds l ns n1 a) (h2 : Adds h n1 n2 b) {i : Nat} (hi : i < n2.length) (e : n2.getD i default = ⟨v, a, b⟩) :
    Adds (.node v l h) ns n2 ((i : Int) + 2) := by
  obtain ⟨F1, o1⟩ := h1.all (k := v + 1) (by omega) rl hF
  obtain ⟨F2, o2⟩ := h2.all (k := v + 1) (by omega) rh F1
  obtain ⟨m2, e2⟩ := h2.ext
  have ta : TreeOf n2 a l := by rw [e2]; exact h1.tree.app m2
  have t2 := TreeOf.node (ns := n2) i hi (l := l) (h := h) (by rw [e]; exact ta) (by rw [e]; exact h2.tree)
  rw [e] at t2
  have t0 : TreeOf ns ((i : Int) + 2) (.node v l h) := o1 _ _ (o2 _ _ t2 (by simp only [DT.sz]; omega)) (by simp only [DT.sz]; omega)
  obtain ⟨k, hk, ek, -, tl, th⟩ := t0.split
  obtain ⟨e3, -⟩ := Adds.have hF tl h1
  subst e3
  obtain ⟨e4, -⟩ := Adds.have F1 th h2
  subst e4
  exact .here t0
/-- .. they differ, and the node is not there. -/
theorem Adds.fresh {vars : Int} {l h : DT} {ns n1 n2 : List BN} {a b : Int} {v : Int} (hv : 0 ≤ v) (hF : Frs vars ns) (rl : l.Red vars (v + 1)) (rh : h.Red vars (v + 1)) (h1 : Adds l ns n1 a) (h2 : Adds h n1 n2 b) (hno : ∀ i : Nat, i < n2.length → n2.getD i default ≠ ⟨v, a, b⟩) :
    Adds (.node v l h) ns (n2 ++ [⟨v, a, b⟩]) ((n2.length : Int) + 2) := by
  obtain ⟨F1, o1⟩ := h1.all (k := v + 1) (by omega) rl hF
  obtain ⟨F2, o2⟩ := h2.all (k := v + 1) (by omega) rh F1
  obtain ⟨m1, e1⟩ := h1.ext
  obtain ⟨m2, e2⟩ := h2.ext
  have ta : TreeOf n2 a l := by rw [e2]; exact h1.tree.app m2
  refine .new (fun p hp => ?_) h1 h2
  obtain ⟨k, hk, ek, ev, tl, th⟩ := hp.split
  have e3 : n2.getD k default = ns.getD k default := by rw [e2, e1, List.append_assoc, getD_app hk]
  have tl2 : TreeOf n2 (ns.getD k default).lo l := by rw [e2, e1]; exact (tl.app m1).app m2
  have th2 : TreeOf n2 (ns.getD k default).hi h := by rw [e2, e1]; exact (th.app m1).app m2
  refine hno k (by rw [e2, e1]; simp; omega) (by rw [e3]; exact bn_ext ev.symm (TreeOf.place F2 ta tl2) (TreeOf.place F2 h2.tree th2))
theorem canon_red (T : Int → Bool) {vars : Int} : ∀ (n : Nat) (v x : Int), 0 ≤ v → v + n = vars → (canon T n v x).Red vars v := by
  intro n
  induction n with
  | zero => intro v x _ _; trivial
  | succ n ih =>
    intro v x hv hn
    rw [canon]
    split
    · exact (ih (v + 1) x (by omega) (by omega)).mono (by omega)
    · rename_i hne
      exact ⟨⟨Int.le_refl _, by omega⟩, hne, ih _ _ (by omega) (by omega), ih _ _ (by omega) (by omega)⟩
end Go.Proofs.YthdofdglbdfkkaaDoor
