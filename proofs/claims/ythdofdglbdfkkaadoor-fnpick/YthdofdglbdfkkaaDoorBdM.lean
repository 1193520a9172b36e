/-
  Diagrams: as data, as they lie in memory; when one is ok.
-/
import Derived.Test.YthdofdglbdfkkaaDoorRows
import Derived.Test.YthdofdglbdfkkaaDoorG0
import Derived.WalkKit
import Derived.ProofKit
import Derived.OpenShut
import Derived.WalkSpells
import Derived.WalkLawsBesides
import Derived.Outline
import Derived.BigQuiet
import Derived.Handy
import Derived.LoopTactic
import Derived.Deep.Light
import Derived.Deep.RegionWith
import Derived.Deep.RegionHeld3
import Derived.Deep.DeepCutAuto
import Derived.Lib.Hide
import Derived.Maps.OwnRows
import Derived.Deep.Onto
import Derived.OneCell
import Derived.StillTailTactics
import Derived.Deep.AppendLies
import Derived.Deep.RegionLaw
namespace Go.Proofs.YthdofdglbdfkkaaDoor
open Go.ChangeShapes Go.WideShapes Go.ChangeAt Go.RowKit Go.Maps Go.ChangeMaps
set_option linter.unusedVariables false
set_option maxRecDepth 100000

/-- A node of a diagram. -/
structure BN where
  v : Int
  lo : Int
  hi : Int
instance : Inhabited BN := ⟨⟨0, 0, 0⟩⟩
def BN.cells (x : BN) : List Value := [.int .i64 x.v, .int .i64 x.lo, .int .i64 x.hi]
def BN.ok (x : BN) : Prop := fits x.v ∧ fits x.lo ∧ fits x.hi
abbrev BnsAt := RowsAt BN.cells BN.ok 3
/-- One node of a diagram, as a walk comes to it. -/
theorem bn_at {B : Nat} {w : World} {a : Option Addr} {len cap k : Nat} {ns : List BN} (h : BnsAt B w a len cap ns) (hk : k < len) :
    ∃ (x : BN) (b off : Nat), x = ns.getD k default ∧ x.ok ∧ a = some ⟨b, off, none⟩ ∧ b < B ∧ w.cell? ⟨b, off + k * 3, none⟩ = some (.int .i64 x.v) ∧ w.cell? ⟨b, off + k * 3 + 1, none⟩ = some (.int .i64 x.lo) ∧ w.cell? ⟨b, off + k * 3 + 2, none⟩ = some (.int .i64 x.hi) := by
  obtain ⟨h1, h2, h3, h4, h5, h6⟩ := h
  have hk' : k < ns.length := by omega
  have hg : ns.getD k default = ns[k] := by simp [List.getD, hk']
  rcases h6 with h6 | ⟨b, off, e, hlt, hc⟩
  · omega
  · exact ⟨_, b, off, hg.symm, h4 _ (List.getElem_mem ..), e, hlt, hc k hk' 0 (by decide), hc k hk' 1 (by decide), hc k hk' 2 (by decide)⟩
/-- The variable of a place; one beyond the last of what is false or true. -/
def vAt (vars : Int) (ns : List BN) (p : Int) : Int := if p < 2 then vars else (ns.getD (p - 2).toNat default).v
/-- A node is right by itself, and by what it leads to. -/
def nFine (vars : Int) (ns : List BN) (k : Nat) : Prop :=
  (0 ≤ (ns.getD k default).v ∧ (ns.getD k default).v < vars) ∧ (ns.getD k default).lo ≠ (ns.getD k default).hi ∧ (0 ≤ (ns.getD k default).lo ∧ (ns.getD k default).lo ≤ (k : Int) + 1) ∧ (0 ≤ (ns.getD k default).hi ∧ (ns.getD k default).hi ≤ (k : Int) + 1) ∧
    (ns.getD k default).v < vAt vars ns (ns.getD k default).lo ∧ (ns.getD k default).v < vAt vars ns (ns.getD k default).hi
/-- Places stay behind their node. -/
def Ahead (ns : List BN) : Prop := ∀ k : Nat, k < ns.length → (0 ≤ (ns.getD k default).lo ∧ (ns.getD k default).lo ≤ (k : Int) + 1) ∧ (0 ≤ (ns.getD k default).hi ∧ (ns.getD k default).hi ≤ (k : Int) + 1)
/-- The places in the order in which they are done. -/
def ord (ns : List BN) : Nat → Int → List Int → List Int
  | 0, _, d => d
  | f + 1, r, d => if r < 2 then d else if r ∈ d then d else ord ns f (ns.getD (r - 2).toNat default).hi (ord ns f (ns.getD (r - 2).toNat default).lo d) ++ [r]
/-- How many are done, and whether all stand where they are done. -/
def dn (ns : List BN) : Nat → Int → Int → Int × Bool
  | 0, _, d => (d, true)
  | f + 1, p, d => if p - 2 < d then (d, true) else
      if (dn ns f (ns.getD (p - 2).toNat default).lo d).2 = true then
        ((dn ns f (ns.getD (p - 2).toNat default).hi (dn ns f (ns.getD (p - 2).toNat default).lo d).1).1 + 1,
          (dn ns f (ns.getD (p - 2).toNat default).hi (dn ns f (ns.getD (p - 2).toNat default).lo d).1).2 && decide (p - 2 = (dn ns f (ns.getD (p - 2).toNat default).hi (dn ns f (ns.getD (p - 2).toNat default).lo d).1).1))
      else ((dn ns f (ns.getD (p - 2).toNat default).lo d).1 + 1, false)
theorem dn_here {ns : List BN} {f : Nat} {p d : Int} (h : p - 2 < d) : dn ns (f + 1) p d = (d, true) := by rw [dn, if_pos h]
theorem dn_no {ns : List BN} {f : Nat} {p d d1 : Int} (h : ¬ p - 2 < d) (ha : dn ns f (ns.getD (p - 2).toNat default).lo d = (d1, false)) : dn ns (f + 1) p d = (d1 + 1, false) := by rw [dn, if_neg h, ha]; rfl
theorem dn_yes {ns : List BN} {f : Nat} {p d d1 d2 : Int} {b : Bool} (h : ¬ p - 2 < d) (ha : dn ns f (ns.getD (p - 2).toNat default).lo d = (d1, true)) (hb : dn ns f (ns.getD (p - 2).toNat default).hi d1 = (d2, b)) : dn ns (f + 1) p d = (d2 + 1, b && decide (p - 2 = d2)) := by rw [dn, if_neg h, ha]; simp only [if_true]; rw [hb]
theorem dn_bound {ns : List BN} (hA : Ahead ns) : ∀ (f : Nat) (p d : Int), p ≤ f → p < (ns.length : Int) + 2 → 0 ≤ d →
    d ≤ (dn ns f p d).1 ∧ ((dn ns f p d).2 = true → (dn ns f p d).1 ≤ max d (p - 1)) ∧ ((dn ns f p d).2 = false → d ≤ p - 2 ∧ (dn ns f p d).1 ≤ 2 * (p - 2) + 1) := by
  intro f
  induction f with
  | zero => intro p d hp hl hd; simp only [dn]; exact ⟨Int.le_refl _, fun _ => by omega, (fun h => by cases h)⟩
  | succ f ih =>
    intro p d hp hl hd
    by_cases h : p - 2 < d
    · rw [dn_here h]; exact ⟨Int.le_refl _, fun _ => by show d ≤ _; omega, (fun h => by cases h)⟩
    obtain ⟨⟨l0, l1⟩, h0, h1⟩ := hA (p - 2).toNat (by omega)
    obtain ⟨a1, a2, a3⟩ := ih (ns.getD (p - 2).toNat default).lo d (by omega) (by omega) hd
    rcases ha : dn ns f (ns.getD (p - 2).toNat default).lo d with ⟨d1, ba⟩
    rw [ha] at a1 a2 a3
    simp only at a1 a2 a3
    cases ba with
    | false =>
      have := a3 rfl
      rw [dn_no h ha]
      exact ⟨by show d ≤ d1 + 1; omega, (fun h => by cases h), fun _ => ⟨by omega, by show d1 + 1 ≤ _; omega⟩⟩
    | true =>
      have := a2 rfl
      obtain ⟨b1, b2, b3⟩ := ih (ns.getD (p - 2).toNat default).hi d1 (by omega) (by omega) (by omega)
      rcases hb : dn ns f (ns.getD (p - 2).toNat default).hi d1 with ⟨d2, bb⟩
      rw [hb] at b1 b2 b3
      simp only at b1 b2 b3
      rw [dn_yes h ha hb]
      cases bb with
      | false =>
        have := b3 rfl
        exact ⟨by show d ≤ d2 + 1; omega, (fun h => by cases h), fun _ => ⟨by omega, by show d2 + 1 ≤ _; omega⟩⟩
      | true =>
        have := b2 rfl
        refine ⟨by show d ≤ d2 + 1; omega, fun h => ?_, fun _ => ⟨by omega, by show d2 + 1 ≤ _; omega⟩⟩
        have h' : decide (p - 2 = d2) = true := h
        have := of_decide_eq_true h'
        show d2 + 1 ≤ _
        omega
/-- A list of places that begins 2, 3, .. -/
def isC (l : List Int) : Prop := ∀ i : Nat, i < l.length → l.getD i 0 = (i : Int) + 2
theorem isC_app {l t : List Int} (h : isC (l ++ t)) : isC l := fun i hi => by
  have := h i (by rw [List.length_append]; omega)
  rw [← this]
  simp only [List.getD]
  rw [List.getElem?_append_left hi]
theorem isC_mem {l : List Int} (h : isC l) (r : Int) : r ∈ l ↔ 2 ≤ r ∧ r < (l.length : Int) + 2 := by
  constructor
  · intro hr
    obtain ⟨i, hi, rfl⟩ := List.getElem_of_mem hr
    have := h i hi
    rw [show l.getD i 0 = l[i] by simp [List.getD, hi]] at this
    omega
  · rintro ⟨h1, h2⟩
    have hi : (r - 2).toNat < l.length := by omega
    have := h _ hi
    rw [show l.getD (r - 2).toNat 0 = l[(r - 2).toNat] by simp [List.getD, hi]] at this
    have e : r = l[(r - 2).toNat] := by omega
    rw [e]; exact List.getElem_mem _
theorem isC_snoc {l : List Int} (h : isC l) (r : Int) : isC (l ++ [r]) ↔ r = (l.length : Int) + 2 := by
  constructor
  · intro hc
    have := hc l.length (by simp)
    simpa [List.getD] using this
  · rintro rfl i hi
    rw [List.length_append, List.length_singleton] at hi
    by_cases e : i = l.length
    · subst e; simp [List.getD]
    · have hi' : i < l.length := by omega
      have := h i hi'
      rw [← this]
      simp only [List.getD]
      rw [List.getElem?_append_left hi']
theorem ord_ext (ns : List BN) : ∀ (f : Nat) (r : Int) (d : List Int), ∃ t, ord ns f r d = d ++ t := by
  intro f
  induction f with
  | zero => intro r d; exact ⟨[], by simp [ord]⟩
  | succ f ih =>
    intro r d
    simp only [ord]
    split
    · exact ⟨[], by simp⟩
    split
    · exact ⟨[], by simp⟩
    · obtain ⟨t1, h1⟩ := ih (ns.getD (r - 2).toNat default).lo d
      rw [h1]
      obtain ⟨t2, h2⟩ := ih (ns.getD (r - 2).toNat default).hi (d ++ t1)
      rw [h2]
      exact ⟨t1 ++ t2 ++ [r], by simp⟩
/-- The order by places, and by how many are done, is one. -/
theorem ord_dn {ns : List BN} (hA : Ahead ns) : ∀ (f : Nat) (p : Int) (D : List Int), p ≤ f → p < (ns.length : Int) + 2 → isC D →
    ((dn ns f p D.length).2 = true → isC (ord ns f p D) ∧ ((ord ns f p D).length : Int) = (dn ns f p D.length).1) ∧ ((dn ns f p D.length).2 = false → ¬ isC (ord ns f p D)) := by
  intro f
  induction f with
  | zero => intro p D hp hl hD; exact ⟨fun _ => ⟨hD, rfl⟩, (fun h => by cases h)⟩
  | succ f ih =>
    intro p D hp hl hD
    rw [ord]
    by_cases h2 : p < 2
    · rw [if_pos h2, dn_here (by omega)]; exact ⟨fun _ => ⟨hD, rfl⟩, (fun h => by cases h)⟩
    rw [if_neg h2]
    by_cases h : p - 2 < (D.length : Int)
    · rw [dn_here h, if_pos ((isC_mem hD p).2 (by omega))]; exact ⟨fun _ => ⟨hD, rfl⟩, (fun h => by cases h)⟩
    rw [if_neg (show ¬ p ∈ D from fun hm => by have := (isC_mem hD p).1 hm; omega)]
    obtain ⟨⟨l0, l1⟩, h0, h1⟩ := hA (p - 2).toNat (by omega)
    obtain ⟨a1, a2⟩ := ih (ns.getD (p - 2).toNat default).lo D (by omega) (by omega) hD
    rcases ha : dn ns f (ns.getD (p - 2).toNat default).lo D.length with ⟨d1, ba⟩
    rw [ha] at a1 a2
    cases ba with
    | false =>
      rw [dn_no h ha]
      refine ⟨(fun h => by cases h), fun _ hc => a2 rfl ?_⟩
      obtain ⟨t, ht⟩ := ord_ext ns f (ns.getD (p - 2).toNat default).hi (ord ns f (ns.getD (p - 2).toNat default).lo D)
      rw [ht, List.append_assoc] at hc
      exact isC_app hc
    | true =>
      obtain ⟨c1, c2⟩ := a1 rfl
      have c2' : ((ord ns f (ns.getD (p - 2).toNat default).lo D).length : Int) = d1 := c2
      generalize ord ns f (ns.getD (p - 2).toNat default).lo D = D1 at *
      obtain ⟨b1, b2⟩ := ih (ns.getD (p - 2).toNat default).hi D1 (by omega) (by omega) c1
      rw [c2'] at b1 b2
      rcases hb : dn ns f (ns.getD (p - 2).toNat default).hi d1 with ⟨d2, bb⟩
      rw [hb] at b1 b2
      rw [dn_yes h ha hb]
      cases bb with
      | false => exact ⟨(fun h => by cases h), fun _ hc => b2 rfl (isC_app hc)⟩
      | true =>
        obtain ⟨e1, e2⟩ := b1 rfl
        have e2' : ((ord ns f (ns.getD (p - 2).toNat default).hi D1).length : Int) = d2 := e2
        refine ⟨fun he => ?_, fun hne hc => ?_⟩
        · have h' : decide (p - 2 = d2) = true := he
          have := of_decide_eq_true h'
          refine ⟨(isC_snoc e1 p).2 (by omega), ?_⟩
          rw [List.length_append, List.length_singleton]
          show _ = d2 + 1
          omega
        · have h' : decide (p - 2 = d2) = false := hne
          have := (isC_snoc e1 p).1 hc
          exact of_decide_eq_false h' (by omega)
/-- A diagram is one. -/
structure OkB (vars : Int) (ns : List BN) (root : Int) : Prop where
  hv : 0 ≤ vars ∧ vars ≤ 13
  len : ns.length ≤ 600
  hr : 0 ≤ root ∧ root ≤ (ns.length : Int) + 1
  fine : ∀ k : Nat, k < ns.length → nFine vars ns k
  once : ∀ x y : Nat, y < x → x < ns.length → ns.getD x default ≠ ns.getD y default
  order : isC (ord ns (ns.length + 1) root []) ∧ (ord ns (ns.length + 1) root []).length = ns.length
theorem Ahead.of {vars : Int} {ns : List BN} (h : ∀ k : Nat, k < ns.length → nFine vars ns k) : Ahead ns := fun k hk => ⟨(h k hk).2.2.1, (h k hk).2.2.2.1⟩
theorem order_dn {vars : Int} {ns : List BN} {root : Int} (h : ∀ k : Nat, k < ns.length → nFine vars ns k) (hr : root ≤ (ns.length : Int) + 1) :
    (isC (ord ns (ns.length + 1) root []) ∧ (ord ns (ns.length + 1) root []).length = ns.length) ↔ ((dn ns (ns.length + 1) root 0).2 = true ∧ (dn ns (ns.length + 1) root 0).1 = ns.length) := by
  obtain ⟨h1, h2⟩ := ord_dn (Ahead.of h) (ns.length + 1) root [] (by omega) (by omega) (fun i hi => by simp at hi)
  change ((dn ns (ns.length + 1) root 0).2 = true → _ ∧ _ = (dn ns (ns.length + 1) root 0).1) at h1
  change ((dn ns (ns.length + 1) root 0).2 = false → _) at h2
  cases hb : (dn ns (ns.length + 1) root 0).2 with
  | false =>
    constructor
    · exact fun hc => absurd hc.1 (h2 hb)
    · rintro ⟨h, -⟩; cases h
  | true =>
    obtain ⟨c1, c2⟩ := h1 hb
    constructor
    · rintro ⟨-, h⟩; exact ⟨rfl, by rw [← c2, h]⟩
    · rintro ⟨-, h⟩; exact ⟨c1, by omega⟩
theorem ord_mem {ns : List BN} (hA : Ahead ns) : ∀ (f : Nat) (p : Int) (D : List Int), p ≤ f → p < (ns.length : Int) + 2 → ∀ x ∈ ord ns f p D, x ∈ D ∨ (2 ≤ x ∧ x ≤ p) := by
  intro f
  induction f with
  | zero => intro p D _ _ x hx; exact .inl hx
  | succ f ih =>
    intro p D hp hl x hx
    rw [ord] at hx
    by_cases h2 : p < 2
    · rw [if_pos h2] at hx; exact .inl hx
    rw [if_neg h2] at hx
    by_cases hm : p ∈ D
    · rw [if_pos hm] at hx; exact .inl hx
    rw [if_neg hm] at hx
    obtain ⟨⟨l0, l1⟩, h0, h1⟩ := hA (p - 2).toNat (by omega)
    rcases List.mem_append.1 hx with hx | hx
    · rcases ih _ _ (by omega) (by omega) x hx with hx | hx
      · rcases ih _ _ (by omega) (by omega) x hx with hx | hx
        · exact .inl hx
        · exact .inr (by omega)
      · exact .inr (by omega)
    · simp at hx; exact .inr (by omega)
theorem ord_nodup {ns : List BN} (hA : Ahead ns) : ∀ (f : Nat) (p : Int) (D : List Int), p ≤ f → p < (ns.length : Int) + 2 → D.Nodup → (ord ns f p D).Nodup := by
  intro f
  induction f with
  | zero => intro p D _ _ h; exact h
  | succ f ih =>
    intro p D hp hl hD
    rw [ord]
    by_cases h2 : p < 2
    · rw [if_pos h2]; exact hD
    rw [if_neg h2]
    by_cases hm : p ∈ D
    · rw [if_pos hm]; exact hD
    rw [if_neg hm]
    obtain ⟨⟨l0, l1⟩, h0, h1⟩ := hA (p - 2).toNat (by omega)
    have n1 := ih (ns.getD (p - 2).toNat default).lo D (by omega) (by omega) hD
    have n2 := ih (ns.getD (p - 2).toNat default).hi _ (by omega) (by omega) n1
    refine List.nodup_append.2 ⟨n2, by simp, fun a ha b hb => ?_⟩
    simp at hb
    subst hb
    rintro rfl
    rcases ord_mem hA f _ _ (by omega) (by omega) a ha with h | h
    · rcases ord_mem hA f _ _ (by omega) (by omega) a h with h | h
      · exact hm h
      · omega
    · omega
theorem nodup_len : ∀ (n : Nat) (l : List Int), l.Nodup → (∀ x ∈ l, 2 ≤ x ∧ x < (n : Int) + 2) → l.length ≤ n := by
  intro n
  induction n with
  | zero =>
    intro l _ h
    cases l with
    | nil => simp
    | cons x l => have := h x (by simp); omega
  | succ n ih =>
    intro l hn h
    by_cases hm : (n : Int) + 2 ∈ l
    · have h1 := ih (l.erase ((n : Int) + 2)) (hn.erase _) (fun x hx => by
        have hx' := (hn.mem_erase_iff).1 hx
        have := h x hx'.2
        have := hx'.1
        omega)
      rw [List.length_erase_of_mem hm] at h1
      have := List.length_pos_of_mem hm
      omega
    · have h1 := ih l hn (fun x hx => by
        have := h x hx
        have : x ≠ (n : Int) + 2 := fun e => hm (e ▸ hx)
        omega)
      omega
/-- Places that may have been done. -/
def DoneL (len : Nat) (l : List Int) : Prop := l.Nodup ∧ ∀ x ∈ l, 2 ≤ x ∧ x < (len : Int) + 2
theorem DoneL.len {len : Nat} {l : List Int} (h : DoneL len l) : l.length ≤ len := nodup_len len l h.1 h.2
theorem DoneL.ord {ns : List BN} (hA : Ahead ns) {f : Nat} {p : Int} {D : List Int} (hp : p ≤ f) (hl : p < (ns.length : Int) + 2) (h : DoneL ns.length D) : DoneL ns.length (ord ns f p D) :=
  ⟨ord_nodup hA f p D hp hl h.1, fun x hx => by rcases ord_mem hA f p D hp hl x hx with h1 | h1; exact h.2 x h1; exact ⟨h1.1, by omega⟩⟩
end Go.Proofs.YthdofdglbdfkkaaDoor
