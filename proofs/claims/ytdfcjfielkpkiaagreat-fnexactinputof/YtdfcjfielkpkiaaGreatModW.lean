/-
  The states and the inputs of a model.
-/
import Derived.Test.YtdfcjfielkpkiaaGreatRows
import Derived.Test.YtdfcjfielkpkiaaGreatPaA
import Derived.Test.YtdfcjfielkpkiaaGreatNodeL
import Derived.Test.YtdfcjfielkpkiaaGreatPaG
import Derived.Test.YtdfcjfielkpkiaaGreatResP
import Derived.Test.YtdfcjfielkpkiaaGreatModD
import Derived.Test.YtdfcjfielkpkiaaGreatModA
import Derived.Test.YtdfcjfielkpkiaaGreatModB
import Derived.Test.YtdfcjfielkpkiaaGreatModE
import Derived.Test.YtdfcjfielkpkiaaGreatModF
import Derived.Test.YtdfcjfielkpkiaaGreatPaF
import Derived.Test.YtdfcjfielkpkiaaGreatModQ
import Derived.Test.YtdfcjfielkpkiaaGreatModU
import Derived.Test.YtdfcjfielkpkiaaGreatModV
import Derived.Test.YtdfcjfielkpkiaaGreatLawMC
import Derived.WalkKit
import Derived.ProofKit
import Derived.OpenShut
import Derived.WalkSpells
import Derived.WalkLawsBesides
import Derived.Outline
import Derived.BigQuiet
import Derived.Handy
import Derived.LoopTactic
import Derived.Deep.Light
import Derived.Deep.RegionWith
import Derived.Deep.RegionHeld3
import Derived.Deep.DeepCutAuto
import Derived.Lib.Hide
import Derived.Maps.OwnRows
import Derived.Deep.Onto
namespace Go.Proofs.YtdfcjfielkpkiaaGreat
open Go.ChangeShapes Go.WideShapes Go.ChangeAt Go.RowKit Go.Maps
set_option linter.unusedVariables false
set_option maxRecDepth 100000


def PlcIs (kind : Int) (M : MD) (zs : List Int) : Prop := (CodeIs M 0 ∧ zs = plcs kind M.ns M.ns.length) ∨ (¬ CodeIs M 0 ∧ zs = [])
theorem PlcIs.inj {kind : Int} {M : MD} {a b : List Int} (h : PlcIs kind M a) (k : PlcIs kind M b) : a = b := by
  rcases h with ⟨h1, rfl⟩ | ⟨h1, rfl⟩ <;> rcases k with ⟨k1, rfl⟩ | ⟨k1, rfl⟩
  · rfl
  · exact absurd h1 k1
  · exact absurd k1 h1
  · rfl
theorem PlcIs.len {kind : Int} {M : MD} {a : List Int} (h : PlcIs kind M a) : a.length ≤ 60 := by
  rcases h with ⟨h1, rfl⟩ | ⟨h1, rfl⟩
  · exact Nat.le_trans (plcs_len _ _ _) (code0_len h1)
  · simp
def PlcM (kind : Int) (M : MD) (w : World) (e : Ending) (w' : World) : Prop := ∃ v zs, e = .returned v ∧ w'.ownsInts w.heap.size 3 .i64 v zs ∧ PlcIs kind M zs ∧ Below w.heap.size w w'
/-- A row of one's own, as a slice of numbers. -/
theorem own_form {w : World} {base : Nat} {v : Value} {zs : List Int} (h : w.ownsInts base 3 .i64 v zs) :
    ∃ a cap, v = .slice a zs.length cap ∧ ((a = none ∧ zs.length = 0 ∧ cap = 0) ∨ ∃ g, a = some ⟨g, 0, none⟩ ∧ base ≤ g ∧ Room w g (zs.length * 1)) := by
  have hl := h.1.lt
  obtain ⟨⟨h1, h2⟩, h3⟩ := h
  rcases h2 with ⟨rfl, hz⟩ | ⟨g, cap, cur, rfl, hb, hg, hn, hm, hs, hx⟩
  · exact ⟨none, 0, by rw [hz], .inl ⟨rfl, hz, rfl⟩⟩
  · have hrow : w.ownsRow base 3 1 (.slice (some ⟨g, 0, none⟩) zs.length cap) zs.length (zs.map (Value.int .i64)) := ⟨h1, .inr ⟨g, cap, cur, rfl, hb, hg, hn, hm, hs, hx⟩⟩
    refine ⟨_, _, rfl, .inr ⟨g, rfl, hb, (hl g rfl).2, fun j hj => ?_⟩⟩
    rw [Nat.zero_add]
    refine ⟨?_, hrow.frozenAt j⟩
    rw [hrow.cellAt j hj, List.getElem?_eq_getElem (by simp; omega)]
    rfl
theorem own_ints {w : World} {base : Nat} {a : Option Addr} {cap n : Nat} {zs : List Int} (h : w.ownsInts base 3 .i64 (.slice a n cap) zs) (hn : n = zs.length) : IntsAt w.heap.size w a n cap zs := by
  have hl := h.1.lt
  obtain ⟨⟨h1, h2⟩, h3⟩ := h
  rcases h2 with ⟨e, hz⟩ | ⟨g, cap', cur, e, hb, hg, hn', hm, hs, hx⟩
  · simp only [Value.slice.injEq] at e
    obtain ⟨rfl, rfl, rfl⟩ := e
    exact ⟨hz, Nat.le_refl _, Nat.zero_le _, fun x hx => h3 x hx, fun _ => rfl, .inl rfl⟩
  · simp only [Value.slice.injEq] at e
    obtain ⟨rfl, rfl, rfl⟩ := e
    have hrow : w.ownsRow base 3 1 (.slice (some ⟨g, 0, none⟩) zs.length cap) zs.length (zs.map (Value.int .i64)) := ⟨h1, .inr ⟨g, cap, cur, rfl, hb, hg, hn', hm, hs, hx⟩⟩
    refine ⟨rfl, hn', hm, fun x hx => h3 x hx, fun e => by simp at e, .inr ⟨g, 0, rfl, (hl g rfl).2, fun i hi j hj => ?_⟩⟩
    obtain rfl : j = 0 := by omega
    have : 0 + i * 1 + 0 = i := by omega
    rw [this, hrow.cellAt i (by omega)]
    simp [intCells, hi]
/-- A slice of one's own that can be marked; .. that is marked. -/
def OwnS (T : Nat → Prop) (a : Option Addr) (len cap : Nat) (w : World) : Prop := (a = none ∧ len = 0 ∧ cap = 0) ∨ ∃ g, a = some ⟨g, 0, none⟩ ∧ T g ∧ Room w g (len * 1)
def HeldS (k : Int) (a : Option Addr) (len cap : Nat) (w : World) : Prop := (a = none ∧ len = 0 ∧ cap = 0) ∨ ∃ g, a = some ⟨g, 0, none⟩ ∧ g < w.heap.size ∧ ∀ t : Nat, t < len → w.cell? ⟨g, t, none⟩ = some (.int .i64 (k + t))
theorem HeldS.below {k : Int} {a : Option Addr} {len cap : Nat} {w w' : World} (h : HeldS k a len cap w) (hb : Below w.heap.size w w') : HeldS k a len cap w' := by
  rcases h with h | ⟨g, h1, h2, h3⟩
  · exact .inl h
  · exact .inr ⟨g, h1, Nat.lt_of_lt_of_le h2 hb.size, fun t ht => keepc hb h2 (h3 t ht)⟩
theorem c_markIntSO {T : Nat → Prop} {a : Option Addr} {len cap : Nat} (hlen : len ≤ 60) (w : World) (h : OwnS T a len cap w) :
    Calls Tryz.prog 47 #[.slice a len cap, .int .i64 1] w fun e w' => e = .returned (.int .i64 (1 + (len : Int))) ∧ Touch T w w' ∧ HeldS 1 a len cap w' := by
  rcases h with ⟨rfl, rfl, rfl⟩ | ⟨g, rfl, hT, hr⟩
  · refine (c_markIntS_nil 1 w).mono ?_
    rintro e w' ⟨rfl, rfl⟩
    exact ⟨rfl, Touch.refl _ _, .inl ⟨rfl, rfl, rfl⟩⟩
  · refine (c_markIntS hT 1 (by omega) (by omega) (by omega) w hr).mono ?_
    rintro e w' ⟨rfl, h1, h2, h3⟩
    exact ⟨rfl, h1, .inr ⟨g, rfl, h2, h3⟩⟩
theorem c_heldIntSO {a : Option Addr} {len cap : Nat} (hlen : len ≤ 60) (w : World) (h : HeldS 1 a len cap w) :
    Calls Tryz.prog 67 #[.slice a len cap, .int .i64 1] w fun e w' => e = .returned (.int .i64 (1 + (len : Int))) ∧ w' = w := by
  rcases h with ⟨rfl, rfl, rfl⟩ | ⟨g, rfl, h2, h3⟩
  · refine (c_heldIntS_nil 1 w).mono ?_
    rintro e w' ⟨rfl, rfl⟩
    exact ⟨rfl, rfl⟩
  · exact c_heldIntS 1 (by omega) (by omega) (by omega) w h3
theorem Boxed.belowB {s0 s1 s2 s3 s4 : SL} {w wr w' : World} {B : Nat} (h : Boxed s0 s1 s2 s3 s4 w wr) (hb : Below B wr w') (hB : w.heap.size < B) : Boxed s0 s1 s2 s3 s4 w w' := by
  obtain ⟨h1, c0, c1, c2, c3, c4, hBl⟩ := h
  exact ⟨Nat.lt_of_lt_of_le h1 hb.size, (hb.cell (p := ⟨w.heap.size, 0, none⟩) hB).trans c0, (hb.cell (p := ⟨w.heap.size, 1, none⟩) hB).trans c1, (hb.cell (p := ⟨w.heap.size, 2, none⟩) hB).trans c2, (hb.cell (p := ⟨w.heap.size, 3, none⟩) hB).trans c3, (hb.cell (p := ⟨w.heap.size, 4, none⟩) hB).trans c4, hBl.trans (hb.mono (Nat.le_of_lt hB))⟩
theorem own_touch {T : Nat → Prop} {w w' : World} {base : Nat} {v : Value} {zs : List Int} (h : w.ownsInts base 3 .i64 v zs) (ht : Touch T w w') (hT : ∀ g, base ≤ g → g < w.heap.size → v.ownBlock = some g → ¬ T g) : w'.ownsInts base 3 .i64 v zs :=
  own_block h (fun g h1 h2 h3 => ht.block g h2 (hT g h1 h2 h3))

end Go.Proofs.YtdfcjfielkpkiaaGreat
