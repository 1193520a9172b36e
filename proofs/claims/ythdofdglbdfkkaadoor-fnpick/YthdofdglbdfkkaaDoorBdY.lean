/-
  Nodes of one's own.
-/
import Derived.Test.YthdofdglbdfkkaaDoorRows
import Derived.Test.YthdofdglbdfkkaaDoorPaA
import Derived.Test.YthdofdglbdfkkaaDoorG0
import Derived.Test.YthdofdglbdfkkaaDoorBdM
import Derived.Test.YthdofdglbdfkkaaDoorBdI
import Derived.Test.YthdofdglbdfkkaaDoorBdC
import Derived.Test.YthdofdglbdfkkaaDoorBdN
import Derived.Test.YthdofdglbdfkkaaDoorBdX
import Derived.WalkKit
import Derived.ProofKit
import Derived.OpenShut
import Derived.WalkSpells
import Derived.WalkLawsBesides
import Derived.Outline
import Derived.BigQuiet
import Derived.Handy
import Derived.LoopTactic
import Derived.Deep.Light
import Derived.Deep.RegionWith
import Derived.Deep.RegionHeld3
import Derived.Deep.DeepCutAuto
import Derived.Lib.Hide
import Derived.Lib.LazyBuf
import Derived.Maps.OwnRows
import Derived.Deep.Onto
import Derived.OneCell
import Derived.StillTailTactics
import Derived.Deep.AppendLies
import Derived.Deep.RegionLaw
namespace Go.Proofs.YthdofdglbdfkkaaDoor
open Go.ChangeShapes Go.WideShapes Go.ChangeAt Go.RowKit Go.Maps Go.ChangeMaps
set_option linter.unusedVariables false
set_option maxRecDepth 100000


theorem row_block {w w' : World} {base c n : Nat} {t : TypeId} {v : Value} {xs : List Value} (h : w.ownsRow base t c v n xs) (hb : ∀ g, base ≤ g → g < w.heap.size → v.ownBlock = some g → w'.heap[g]? = w.heap[g]?) : w'.ownsRow base t c v n xs := by
  have hl := h.lt
  obtain ⟨h1, h2⟩ := h
  refine ⟨h1, ?_⟩
  rcases h2 with h2 | ⟨g, cap, cur, rfl, hbs, hg, h4⟩
  · exact .inl h2
  · exact .inr ⟨g, cap, cur, rfl, hbs, (hb g hbs (hl g rfl).2 rfl).trans hg, h4⟩
/-- Nodes of one's own. -/
def OwnN (w : World) (base : Nat) (v : Value) (ns : List BN) : Prop := w.ownsRow base 67 3 v ns.length (ns.flatMap BN.cells) ∧ ∀ x ∈ ns, x.ok
theorem OwnN.nil (w : World) (base : Nat) : OwnN w base (.slice none 0 0) [] := ⟨⟨rfl, .inl ⟨rfl, rfl⟩⟩, by simp⟩
theorem OwnN.block {w w' : World} {base : Nat} {v : Value} {ns : List BN} (h : OwnN w base v ns) (hb : ∀ g, base ≤ g → g < w.heap.size → v.ownBlock = some g → w'.heap[g]? = w.heap[g]?) : OwnN w' base v ns := ⟨row_block h.1 hb, h.2⟩
theorem OwnN.below {w w' : World} {base : Nat} {v : Value} {ns : List BN} (h : OwnN w base v ns) (hb : Below w.heap.size w w') : OwnN w' base v ns := h.block (fun g _ hl _ => hb.block g hl)
theorem OwnN.touch {T : Nat → Prop} {w w' : World} {base : Nat} {v : Value} {ns : List BN} (h : OwnN w base v ns) (ht : Touch T w w') (hT : ∀ g, base ≤ g → g < w.heap.size → v.ownBlock = some g → ¬ T g) : OwnN w' base v ns :=
  h.block (fun g h1 h2 h3 => ht.block g h2 (hT g h1 h2 h3))
theorem OwnN.mono {w : World} {base base' : Nat} {v : Value} {ns : List BN} (h : OwnN w base v ns) (hb : base' ≤ base) : OwnN w base' v ns := ⟨h.1.mono hb, h.2⟩
theorem flat_at : ∀ (ns : List BN) (i j : Nat) (hi : i < ns.length), j < 3 → (ns.flatMap BN.cells)[i * 3 + j]? = (ns[i]).cells[j]? := by
  intro ns
  induction ns with
  | nil => intro i j hi; simp at hi
  | cons x ns ih =>
    intro i j hi hj
    rw [List.flatMap_cons]
    cases i with
    | zero => rw [List.getElem?_append_left (by show 0 * 3 + j < 3; omega)]; simp
    | succ i =>
      rw [List.getElem?_append_right (by show 3 ≤ (i + 1) * 3 + j; omega)]
      have e : (i + 1) * 3 + j - x.cells.length = i * 3 + j := by show (i + 1) * 3 + j - 3 = _; omega
      rw [e, ih i j (by simpa using hi) hj]
      rfl
theorem flat_len (ns : List BN) : (ns.flatMap BN.cells).length = ns.length * 3 := by
  induction ns with
  | nil => rfl
  | cons x ns ih => rw [List.flatMap_cons, List.length_append, ih]; show 3 + _ = (ns.length + 1) * 3; omega
theorem OwnN.form {w : World} {base : Nat} {v : Value} {ns : List BN} (h : OwnN w base v ns) :
    ∃ a cap, v = .slice a ns.length cap ∧ ((a = none ∧ ns.length = 0 ∧ cap = 0) ∨ ∃ g, a = some ⟨g, 0, none⟩ ∧ base ≤ g ∧ Room w g (ns.length * 3)) := by
  have hl := h.1.lt
  obtain ⟨⟨h1, h2⟩, h3⟩ := h
  rcases h2 with ⟨rfl, hz⟩ | ⟨g, cap, cur, rfl, hb, hg, hn, hm, hs, hx⟩
  · exact ⟨none, 0, by rw [hz], .inl ⟨rfl, hz, rfl⟩⟩
  · have hrow : w.ownsRow base 67 3 (.slice (some ⟨g, 0, none⟩) ns.length cap) ns.length (ns.flatMap BN.cells) := ⟨h1, .inr ⟨g, cap, cur, rfl, hb, hg, hn, hm, hs, hx⟩⟩
    refine ⟨_, _, rfl, .inr ⟨g, rfl, hb, (hl g rfl).2, fun j hj => ?_⟩⟩
    rw [Nat.zero_add]
    refine ⟨?_, hrow.frozenAt j⟩
    rw [hrow.cellAt j hj, List.getElem?_eq_getElem (by rw [flat_len]; exact hj)]
    rfl
theorem OwnN.bns {w : World} {base : Nat} {a : Option Addr} {cap n : Nat} {ns : List BN} (h : OwnN w base (.slice a n cap) ns) (hn : n = ns.length) : BnsAt w.heap.size w a n cap ns := by
  have hl := h.1.lt
  obtain ⟨⟨h1, h2⟩, h3⟩ := h
  rcases h2 with ⟨e, hz⟩ | ⟨g, cap', cur, e, hb, hg, hn', hm, hs, hx⟩
  · simp only [Value.slice.injEq] at e
    obtain ⟨rfl, rfl, rfl⟩ := e
    exact ⟨hz, Nat.le_refl _, Nat.zero_le _, fun x hx => h3 x hx, fun _ => rfl, .inl rfl⟩
  · simp only [Value.slice.injEq] at e
    obtain ⟨rfl, rfl, rfl⟩ := e
    have hrow : w.ownsRow base 67 3 (.slice (some ⟨g, 0, none⟩) ns.length cap) ns.length (ns.flatMap BN.cells) := ⟨h1, .inr ⟨g, cap, cur, rfl, hb, hg, hn', hm, hs, hx⟩⟩
    refine ⟨rfl, hn', hm, fun x hx => h3 x hx, fun e => by simp at e, .inr ⟨g, 0, rfl, (hl g rfl).2, fun i hi j hj => ?_⟩⟩
    have e0 : 0 + i * 3 + j = i * 3 + j := by omega
    rw [e0, hrow.cellAt (i * 3 + j) (by omega)]
    exact flat_at ns i j hi hj
theorem OwnN.app {w w' : World} {base : Nat} {v v' : Value} {ns ms : List BN} (h : OwnN w base v ns) (hms : ∀ x ∈ ms, x.ok) (hown : w'.ownsRow base 67 3 v' (ns.length + ms.length) (ns.flatMap BN.cells ++ ms.flatMap BN.cells)) : OwnN w' base v' (ns ++ ms) :=
  ⟨by rw [List.length_append, List.flatMap_append]; exact hown, fun x hx => by
    rcases List.mem_append.1 hx with hx | hx
    · exact h.2 x hx
    · exact hms x hx⟩
theorem bn_one (x : BN) : ∀ u ∈ x.cells, u.oneCell' = true := by
  intro u hu
  simp only [BN.cells, List.mem_cons, List.not_mem_nil, or_false] at hu
  rcases hu with rfl | rfl | rfl <;> rfl
theorem bns_one (ns : List BN) : ∀ u ∈ ns.flatMap BN.cells, u.oneCell' = true := by
  intro u hu
  obtain ⟨x, _, hx⟩ := List.mem_flatMap.1 hu
  exact bn_one x u hx
theorem bn_new (x : BN) (w : World) : ∀ (j : Nat) (u : Value), x.cells[j]? = some u → (w.alloc (.cells x.cells.toArray 67)).cell? ((⟨w.heap.size, 0, none⟩ : Addr).add j) = some u := fun j u hu =>
  World.news_of_block (MapKept.heap_alloc w _).1 j u (by simpa using hu)
theorem bns_cell {B : Nat} {w : World} {ad : Addr} {len cap : Nat} {ns : List BN} (h : BnsAt B w (some ad) len cap ns) : ∀ (j : Nat) (u : Value), (ns.flatMap BN.cells)[j]? = some u → w.cell? (ad.add j) = some u := by
  intro j u hu
  obtain ⟨h1, h2, h3, h4, h5, h6⟩ := h
  have hj : j < ns.length * 3 := by
    rcases Nat.lt_or_ge j (ns.length * 3) with h | h
    · exact h
    · rw [List.getElem?_eq_none (by rw [flat_len]; exact h)] at hu; cases hu
  rcases h6 with h6 | ⟨b, off, e, hlt, hc⟩
  · omega
  · simp only [Option.some.injEq] at e
    subst e
    have hadd : (⟨b, off, none⟩ : Addr).add j = ⟨b, off + j, none⟩ := by unfold Addr.add; split <;> simp_all
    have hq := hc (j / 3) (by omega) (j % 3) (by omega)
    rw [hadd]
    have e1 : off + j / 3 * 3 + j % 3 = off + j := by omega
    rw [e1] at hq
    rw [hq, ← flat_at ns (j / 3) (j % 3) (by omega) (by omega)]
    have e2 : j / 3 * 3 + j % 3 = j := by omega
    rw [e2]; exact hu
/-- A slice of nodes that is one's own. -/
def ClnB (ns : List BN) (w : World) (e : Ending) (w' : World) : Prop := ∃ x, e = .returned x ∧ OwnN w' w.heap.size x ns ∧ Below w.heap.size w w'

/-- A slice of nodes that can be marked; .. that is marked. -/
def OwnBS (T : Nat → Prop) (a : Option Addr) (len cap : Nat) (w : World) : Prop := (a = none ∧ len = 0 ∧ cap = 0) ∨ ∃ g, a = some ⟨g, 0, none⟩ ∧ T g ∧ Room w g (len * 3)
def HeldB (a : Option Addr) (len cap : Nat) (w : World) : Prop := (a = none ∧ len = 0 ∧ cap = 0) ∨ ∃ g, a = some ⟨g, 0, none⟩ ∧ g < w.heap.size ∧ ∀ t : Nat, t < len * 3 → w.cell? ⟨g, t, none⟩ = some (.int .i64 ((1 : Int) + t))
theorem HeldB.below {a : Option Addr} {len cap : Nat} {w w' : World} (h : HeldB a len cap w) (hb : Below w.heap.size w w') : HeldB a len cap w' := by
  rcases h with h | ⟨g, h1, h2, h3⟩
  · exact .inl h
  · exact .inr ⟨g, h1, Nat.lt_of_lt_of_le h2 hb.size, fun t ht => keepc hb h2 (h3 t ht)⟩
theorem OwnBS.below {T : Nat → Prop} {a : Option Addr} {len cap : Nat} {w w' : World} (h : OwnBS T a len cap w) (hq : Below w.heap.size w w') : OwnBS T a len cap w' := by
  rcases h with h | ⟨g, h1, h2, h3⟩
  · exact .inl h
  · exact .inr ⟨g, h1, h2, h3.below hq⟩
theorem OwnBS.touch {T T' : Nat → Prop} {a : Option Addr} {len cap : Nat} {w w' : World} (h : OwnBS T a len cap w) (hq : Touch T' w w') : OwnBS T a len cap w' := by
  rcases h with h | ⟨g, h1, h2, h3⟩
  · exact .inl h
  · exact .inr ⟨g, h1, h2, hq.room _ _ h3⟩
theorem ownBS_of {w : World} {base : Nat} {a : Option Addr} {cap : Nat} {ns : List BN} (h : (a = none ∧ ns.length = 0 ∧ cap = 0) ∨ ∃ g, a = some ⟨g, 0, none⟩ ∧ base ≤ g ∧ Room w g (ns.length * 3)) : OwnBS (fun b => a = some ⟨b, 0, none⟩) a ns.length cap w := by
  rcases h with h | ⟨g, h1, h2, h3⟩
  · exact .inl h
  · exact .inr ⟨g, h1, h1, h3⟩
theorem ownB_at {w : World} {base : Nat} {a : Option Addr} {cap : Nat} {ns : List BN} (h : (a = none ∧ ns.length = 0 ∧ cap = 0) ∨ ∃ g, a = some ⟨g, 0, none⟩ ∧ base ≤ g ∧ Room w g (ns.length * 3)) : ∀ b, a = some ⟨b, 0, none⟩ → base ≤ b ∧ b < w.heap.size := by
  rintro b rfl
  rcases h with ⟨h, -⟩ | ⟨g, h1, h2, h3⟩
  · cases h
  · simp only [Option.some.injEq, Addr.mk.injEq, and_true] at h1
    subst h1
    exact ⟨h2, h3.1⟩
/-- What a function answers that makes a diagram: the relation tells its parts. -/
def BddQ (Rel : Int → List BN → Int → Bool → Prop) (w : World) (e : Ending) (w' : World) : Prop := ∃ x V R b ms, e = .returned (.tuple #[.agg #[.int .i64 V, x, .int .i64 R], .bool b]) ∧ OwnN w' w.heap.size x ms ∧ Rel V ms R b ∧ Below w.heap.size w w'
end Go.Proofs.YthdofdglbdfkkaaDoor
