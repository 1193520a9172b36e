/-
  Forests as they lie in memory: maps of integers; the forest's own blocks; what may turn.
-/
import Derived.Test.YthdofdglbdfkkaaRows
import Derived.Test.YthdofdglbdfkkaaFoB
import Derived.Test.YthdofdglbdfkkaaMapB
import Derived.Test.YthdofdglbdfkkaaBdL
import Derived.Test.YthdofdglbdfkkaaBdY
import Derived.Maps.OwnSet
namespace Go.Proofs.Ythdofdglbdfkkaa
open Go.ChangeShapes Go.WideShapes Go.ChangeAt Go.RowKit Go.Maps Go.ChangeMaps
set_option linter.unusedVariables false
set_option maxRecDepth 100000

theorem zeroInt (w : World) : (zeroValue 3).run Try.prog w = .ok (.int .i64 0) w := by kernel_rfl
/-- Block b is a map of integers: just those of which R tells. -/
def IntMap (k : TypeId) (b n : Nat) (R : Lit → Int → Prop) (w : World) : Prop :=
  ∃ D : DataW Unit, w.ownsMap Try.prog k (plainElem Try.prog 3) b n D ∧ IsMap D ∧ ∀ kl, (Maps.has D kl = true ↔ ∃ z, R kl z) ∧ ∀ z, R kl z → D.atKey kl (.lit (.int .i64 0)) = .lit (.int .i64 z)
theorem IntMap.lt {k : TypeId} {b n : Nat} {R : Lit → Int → Prop} {w : World} (h : IntMap k b n R w) : b < w.heap.size := by
  obtain ⟨D, ho, _⟩ := h
  exact ho.lt
theorem IntMap.made (k : TypeId) (w : World) : IntMap k w.heap.size 0 (fun _ _ => False) (w.alloc (.map #[] 0)) :=
  ⟨.map [], World.ownsMap_made _ _ _ _, isMap_empty, fun kl => ⟨by simp [Maps.has], fun z h => h.elim⟩⟩
theorem IntMap.of_block {k : TypeId} {b n : Nat} {R : Lit → Int → Prop} {w w' : World} (h : IntMap k b n R w) (hb : w'.heap[b]? = w.heap[b]?) : IntMap k b n R w' := by
  obtain ⟨D, ⟨es, c, h1, h2⟩, h3⟩ := h
  exact ⟨D, ⟨es, c, hb.trans h1, h2⟩, h3⟩
theorem IntMap.iff {k : TypeId} {b n : Nat} {R S : Lit → Int → Prop} {w : World} (h : IntMap k b n R w) (hst : ∀ q z, R q z ↔ S q z) : IntMap k b n S w := by
  obtain ⟨D, h1, h2, h3⟩ := h
  exact ⟨D, h1, h2, fun kl => ⟨(h3 kl).1.trans ⟨fun ⟨z, hz⟩ => ⟨z, (hst _ _).1 hz⟩, fun ⟨z, hz⟩ => ⟨z, (hst _ _).2 hz⟩⟩, fun z hz => (h3 kl).2 z ((hst _ _).2 hz)⟩⟩
theorem IntMap.mono {k : TypeId} {b n m : Nat} {R : Lit → Int → Prop} {w : World} (h : IntMap k b n R w) (hm : n ≤ m) : IntMap k b m R w := by
  obtain ⟨D, h1, h2⟩ := h
  exact ⟨D, h1.mono hm, h2⟩
/-- The block's own shape. -/
theorem IntMap.shape {k : TypeId} {b n : Nat} {R : Lit → Int → Prop} {w : World} (h : IntMap k b n R w) : ∃ es c, w.heap[b]? = some (.map es c) := by
  obtain ⟨D, ⟨es, c, h1, h2⟩, h3⟩ := h
  exact ⟨es, c, h1⟩
theorem IntMap.look {k t : TypeId} {b n : Nat} {R : Lit → Int → Prop} {w : World} (h : IntMap k b n R w) (K : Keyed Try.prog k) (ht : Try.prog.underlying t = some (.map k 3)) {key : Value} {kl : Lit} (hkey : keyOf Try.prog k key = some kl) :
    ∃ z ok, (∀ u : World, u.heap[b]? = w.heap[b]? → (Instr.lookup t (.map (some b)) key true).run Try.prog u = .ok (.tuple #[.int .i64 z, .bool ok]) u) ∧ (ok = true → R kl z) ∧ (ok = false → ∀ y, ¬ R kl y) := by
  obtain ⟨D, ho, hm, hs⟩ := h
  have key1 : ∀ u : World, u.heap[b]? = w.heap[b]? → ∃ z, (Instr.lookup t (.map (some b)) key true).run Try.prog u = .ok (.tuple #[.int .i64 z, .bool (Maps.has D kl)]) u ∧ D.atKey kl (.lit (.int .i64 0)) = .lit (.int .i64 z) := fun u hu => by
    obtain ⟨es, c, h1, h2⟩ := ho
    have hou : u.ownsMap Try.prog k (plainElem Try.prog 3) b n D := ⟨es, c, hu.trans h1, h2⟩
    obtain ⟨v, ps, hrun, hv⟩ := hou.look_ok K ht (zeroInt u) (plainElem_int Try.underlying3 (by decide)) hkey
    obtain ⟨a, rfl, hz, -⟩ := plainElem_int_inv Try.underlying3 hv
    simp only [Prod.mk.injEq] at hz
    exact ⟨a, hrun, hz.1⟩
  obtain ⟨z, -, hz⟩ := key1 w rfl
  refine ⟨z, Maps.has D kl, fun u hu => ?_, fun hok => ?_, fun hok y hy => ?_⟩
  · obtain ⟨z', h1, h2⟩ := key1 u hu
    rw [hz] at h2
    simp only [DataW.lit.injEq, Lit.int.injEq, true_and] at h2
    rw [h1, h2]
  · obtain ⟨y, hy⟩ := (hs kl).1.1 hok
    have e := (hs kl).2 y hy
    rw [hz] at e
    simp only [DataW.lit.injEq, Lit.int.injEq, true_and] at e
    rw [e]; exact hy
  · have := (hs kl).1.2 ⟨y, hy⟩
    rw [hok] at this; cases this
theorem IntMap.store {k t : TypeId} {b n : Nat} {R : Lit → Int → Prop} {w : World} (h : IntMap k b n R w) (K : Keyed Try.prog k) (ht : Try.prog.underlying t = some (.map k 3)) (hn : n < maxLen) {key : Value} {kl : Lit} (hkey : keyOf Try.prog k key = some kl) {z : Int} (hz : fits z) :
    ∃ w', (Instr.mapUpdate t (.map (some b)) key (.int .i64 z)).run Try.prog w = .ok () w' ∧ IntMap k b (n + 1) (fun q y => (q = kl ∧ y = z) ∨ (q ≠ kl ∧ R q y)) w' ∧ w.grownBy w' (some b) := by
  obtain ⟨D, ho, hm, hs⟩ := h
  have hw : (Lit.int .i64 z).wf = true := hz
  obtain ⟨w', hrun, ho', hg⟩ := ho.update K ht hn hkey (plainElem_int Try.underlying3 hw)
  refine ⟨w', hrun, ⟨_, ho', hm.put _ _, fun q => ?_⟩, hg⟩
  by_cases hq : q = kl
  · subst hq
    exact ⟨⟨fun _ => ⟨z, .inl ⟨rfl, rfl⟩⟩, fun _ => has_put_same hm (K.key hkey) _⟩, fun y hy => by
      rcases hy with ⟨-, rfl⟩ | ⟨h1, -⟩
      · exact atKey_put_same hm (K.key hkey) _ _
      · exact absurd rfl h1⟩
  · rw [has_put_other hq, atKey_put_other hq]
    obtain ⟨h4, h5⟩ := hs q
    exact ⟨h4.trans ⟨fun ⟨y, hy⟩ => ⟨y, .inr ⟨hq, hy⟩⟩, fun ⟨y, hy⟩ => by
      rcases hy with ⟨h1, -⟩ | ⟨-, h2⟩
      · exact absurd h1 hq
      · exact ⟨y, h2⟩⟩, fun y hy => by
      rcases hy with ⟨h1, -⟩ | ⟨-, h2⟩
      · exact absurd h1 hq
      · exact h5 y h2⟩
/-- .. at the operation. -/
theorem wpList_int_store {ops : Array Oper} {rest : List Oper} {o : Oper} {a : Act} {Q : Exit → Act → World → Prop} (w : World)
    (hg : o.guard = none) (m x v : Operand) (t : TypeId) (hop : o.op = Op.mapUpdate t m x v) (k : TypeId) (K : Keyed Try.prog k) (ht : Try.prog.underlying t = some (.map k 3)) (b n : Nat) (R : Lit → Int → Prop)
    (hm : a.eval m = .map (some b)) (hs : IntMap k b n R w) (hn : n < maxLen) (key : Value) (kl : Lit) (z : Int) (hz : fits z) (hx : a.eval x = key) (hv : a.eval v = .int .i64 z) (hkey : keyOf Try.prog k key = some kl)
    (hK : ∀ w', IntMap k b (n + 1) (fun q y => (q = kl ∧ y = z) ∨ (q ≠ kl ∧ R q y)) w' → w.grownBy w' (some b) → wpList Try.prog ops Q rest (a.put o.dst undef) w') : wpList Try.prog ops Q (o :: rest) a w := by
  refine wpList_plain hg fun K' hK' => ?_
  obtain ⟨w', hrun, r1, r2⟩ := hs.store K ht hn hkey hz
  unfold Oper.wp
  simp [execOp, hop, hm, hx, hv, hrun, Result.andThen]
  exact hK' _ _ (hK w' r1 r2)
theorem step_int_store {ops : Array Oper} {o : Oper} {a : Act} {K : Act → World → Prop} {Q : Exit → Act → World → Prop} {E : Prop} (w : World)
    (hg : o.guard = none) (m x v : Operand) (t : TypeId) (hop : o.op = Op.mapUpdate t m x v) (k : TypeId) (hk : Keyed Try.prog k) (ht : Try.prog.underlying t = some (.map k 3)) (b n : Nat) (R : Lit → Int → Prop)
    (hm : a.eval m = .map (some b)) (hs : IntMap k b n R w) (hn : n < maxLen) (key : Value) (kl : Lit) (z : Int) (hz : fits z) (hx : a.eval x = key) (hv : a.eval v = .int .i64 z) (hkey : keyOf Try.prog k key = some kl)
    (hK : ∀ w', IntMap k b (n + 1) (fun q y => (q = kl ∧ y = z) ∨ (q ≠ kl ∧ R q y)) w' → w.grownBy w' (some b) → K (a.put o.dst undef) w') :
    if Region.wanted o (yielded ops a.tmps) = true then Oper.wp Try.prog o a w K Q else E := by
  have hw : Region.wanted o (yielded ops a.tmps) = true := by simp [Region.wanted, hg]
  rw [if_pos hw]
  obtain ⟨w', hrun, r1, r2⟩ := hs.store hk ht hn hkey hz
  unfold Oper.wp
  simp [execOp, hop, hm, hx, hv, hrun, Result.andThen]
  exact hK w' r1 r2

def prAgg (r a b : Int) : Value := .agg #[.int .i64 r, .int .i64 a, .int .i64 b]
theorem prAgg_inj {r a b r' a' b' : Int} (h : prAgg r a b = prAgg r' a' b') : r = r' ∧ a = a' ∧ b = b' := by
  unfold prAgg at h
  simpa using h
/-- What the table of nodes tells. -/
def PlcR (F : List BN) (q : Lit) (z : Int) : Prop := ∃ k : Nat, k < F.length ∧ keyOf Try.prog 45 (bnAgg (F.getD k default)) = some q ∧ z = (k : Int) + 2
/-- Block g is one of the forest's. -/
def FB (fb mb pb : Nat) (v : Value) (g : Nat) : Prop := g = fb ∨ g = mb ∨ g = pb ∨ v.ownBlock = some g
theorem own_shape {w : World} {base : Nat} {v : Value} {ns : List BN} (h : OwnN w base v ns) {g : Nat} (hg : v.ownBlock = some g) : ∃ cur, w.heap[g]? = some (.cells cur 45 (0, 0)) := by
  obtain ⟨⟨-, h1⟩, -⟩ := h
  rcases h1 with ⟨rfl, -⟩ | ⟨g', cap, cur, rfl, -, h2, -⟩
  · simp [Value.ownBlock] at hg
  · simp only [Value.ownBlock, Option.some.injEq] at hg
    subst hg
    exact ⟨cur, h2⟩
/-- What a call on a forest turns: the forest's blocks alone; its nodes may come to lie in a new block. -/
structure FStep (fb mb pb : Nat) (v : Value) (w : World) (v' : Value) (w' : World) : Prop where
  os : w'.os = w.os
  tape : w'.tape = w.tape
  output : w'.output = w.output
  size : w.heap.size ≤ w'.heap.size
  block : ∀ k, k < w.heap.size → ¬ FB fb mb pb v k → w'.heap[k]? = w.heap[k]?
  own : ∀ g, v'.ownBlock = some g → v.ownBlock = some g ∨ w.heap.size ≤ g
theorem FStep.of_below {fb mb pb : Nat} {v : Value} {w w' : World} (h : Below w.heap.size w w') : FStep fb mb pb v w v w' := ⟨h.os, h.tape, h.output, h.size, fun k hk _ => h.block k hk, fun g hg => .inl hg⟩
theorem FStep.refl (fb mb pb : Nat) (v : Value) (w : World) : FStep fb mb pb v w v w := .of_below (Below.refl _ _)
theorem FStep.trans {fb mb pb : Nat} {v v1 v2 : Value} {w w1 w2 : World} (h : FStep fb mb pb v w v1 w1) (k : FStep fb mb pb v1 w1 v2 w2) : FStep fb mb pb v w v2 w2 :=
  ⟨k.os.trans h.os, k.tape.trans h.tape, k.output.trans h.output, Nat.le_trans h.size k.size, fun i hi hn => (k.block i (Nat.lt_of_lt_of_le hi h.size) (fun hf => hn (by
    rcases hf with hf | hf | hf | hf
    · exact .inl hf
    · exact .inr (.inl hf)
    · exact .inr (.inr (.inl hf))
    · rcases h.own i hf with h1 | h1
      · exact .inr (.inr (.inr h1))
      · omega))).trans (h.block i hi hn), fun g hg => by
    rcases k.own g hg with h1 | h1
    · exact h.own g h1
    · exact .inr (Nat.le_trans h.size h1)⟩
theorem FStep.then {fb mb pb : Nat} {v v1 : Value} {w w1 w2 : World} (h : FStep fb mb pb v w v1 w1) (hb : Below w1.heap.size w1 w2) : FStep fb mb pb v w v1 w2 := h.trans (.of_below hb)
theorem FStep.below {B fb mb pb : Nat} {v v' : Value} {w w' : World} (h : FStep fb mb pb v w v' w') (hB : B ≤ w.heap.size) (hf : ∀ g, FB fb mb pb v g → B ≤ g) : Below B w w' :=
  ⟨h.os, h.tape, h.output, h.size, fun k hk => h.block k (by omega) (fun hg => by have := hf k hg; omega)⟩
end Go.Proofs.Ythdofdglbdfkkaa
