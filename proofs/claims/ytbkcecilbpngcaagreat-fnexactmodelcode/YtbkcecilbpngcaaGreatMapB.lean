/-
  Sets as maps of bools that are all true: the look-up, the store, the range.
-/
import Derived.Test.YtbkcecilbpngcaaGreatRows
import Derived.WalkKit
import Derived.ProofKit
import Derived.OpenShut
import Derived.Maps.Own
import Derived.Maps.OwnOps
import Derived.Maps.Views
import Derived.Maps.OwnSet
import Derived.Maps.RangeWalk
namespace Go.Proofs.YtbkcecilbpngcaaGreat
open Go.ChangeShapes Go.WideShapes Go.ChangeAt Go.RowKit Go.Maps Go.ChangeMaps Go.MapKept
set_option linter.unusedVariables false

theorem plainElem_bool_inv {H : Type} {P : Program} {e : TypeId} (he : P.underlying e = some .bool) {v : Value} {z : DataW H × List MemPlace} (h : plainElem P e v = some z) : ∃ x, v = .bool x ∧ z = (.lit (.bool x), []) := by
  unfold plainElem at h
  rw [he] at h
  cases v <;> simp at h
  subst h
  exact ⟨_, rfl, rfl⟩
theorem strK : Keyed Tryz.prog 9 := string_keyed Tryz.underlying9
theorem intK : Keyed Tryz.prog 3 := int_keyed Tryz.underlying3
theorem zeroBool (w : World) : (zeroValue 4).run Tryz.prog w = .ok (.bool false) w := by kernel_rfl

/-- Block b is a set: a map of bools, all of them true, with just the keys of which S is true. -/
def SetMap (k : TypeId) (b n : Nat) (S : Lit → Prop) (w : World) : Prop :=
  ∃ D : DataW Unit, w.ownsMap Tryz.prog k (plainElem Tryz.prog 4) b n D ∧ IsMap D ∧ ∀ kl, (Maps.has D kl = true ↔ S kl) ∧ ∃ x, D.atKey kl (.lit (.bool false)) = .lit (.bool x) ∧ (x = true ↔ S kl)
theorem SetMap.lt {k : TypeId} {b n : Nat} {S : Lit → Prop} {w : World} (h : SetMap k b n S w) : b < w.heap.size := by
  obtain ⟨D, ho, _⟩ := h
  exact ho.lt
theorem SetMap.made (k : TypeId) (w : World) : SetMap k w.heap.size 0 (fun _ => False) (w.alloc (.map #[] 0)) :=
  ⟨.map [], World.ownsMap_made _ _ _ _, isMap_empty, fun kl => ⟨by simp [Maps.has], false, rfl, by simp⟩⟩
theorem SetMap.of_block {k : TypeId} {b n : Nat} {S : Lit → Prop} {w w' : World} (h : SetMap k b n S w) (hb : w'.heap[b]? = w.heap[b]?) : SetMap k b n S w' := by
  obtain ⟨D, ⟨es, c, h1, h2⟩, h3⟩ := h
  exact ⟨D, ⟨es, c, hb.trans h1, h2⟩, h3⟩
theorem SetMap.below {k : TypeId} {b n : Nat} {S : Lit → Prop} {w w' : World} (h : SetMap k b n S w) (hb : Below w.heap.size w w') : SetMap k b n S w' := h.of_block (hb.block _ h.lt)
theorem SetMap.iff {k : TypeId} {b n : Nat} {S T : Lit → Prop} {w : World} (h : SetMap k b n S w) (hst : ∀ z, S z ↔ T z) : SetMap k b n T w := by
  obtain ⟨D, h1, h2, h3⟩ := h
  exact ⟨D, h1, h2, fun kl => by obtain ⟨h4, x, h5, h6⟩ := h3 kl; exact ⟨h4.trans (hst kl), x, h5, h6.trans (hst kl)⟩⟩
theorem SetMap.mono {k : TypeId} {b n m : Nat} {S : Lit → Prop} {w : World} (h : SetMap k b n S w) (hm : n ≤ m) : SetMap k b m S w := by
  obtain ⟨D, h1, h2⟩ := h
  exact ⟨D, h1.mono hm, h2⟩
/-- The look-up. -/
theorem SetMap.look {k t : TypeId} {b n : Nat} {S : Lit → Prop} {w : World} (h : SetMap k b n S w) (K : Keyed Tryz.prog k) (ht : Tryz.prog.underlying t = some (.map k 4)) {key : Value} {kl : Lit} (hkey : keyOf Tryz.prog k key = some kl) :
    ∃ x, (Instr.lookup t (.map (some b)) key false).run Tryz.prog w = .ok (.bool x) w ∧ (x = true ↔ S kl) := by
  obtain ⟨D, ho, hm, hs⟩ := h
  obtain ⟨v, ps, hrun, hv⟩ := ho.lookup K ht (zeroBool w) (plainElem_bool Tryz.underlying4 false) hkey
  obtain ⟨x, rfl, hz⟩ := plainElem_bool_inv Tryz.underlying4 hv
  obtain ⟨-, y, hy, hys⟩ := hs kl
  simp only [Prod.mk.injEq] at hz
  rw [hy] at hz
  have e1 := hz.1
  simp only [DataW.lit.injEq, Lit.bool.injEq] at e1
  subst e1
  exact ⟨_, hrun, hys⟩
/-- The store of a true. -/
theorem SetMap.store {k t : TypeId} {b n : Nat} {S : Lit → Prop} {w : World} (h : SetMap k b n S w) (K : Keyed Tryz.prog k) (ht : Tryz.prog.underlying t = some (.map k 4)) (hn : n < maxLen) {key : Value} {kl : Lit} (hkey : keyOf Tryz.prog k key = some kl) :
    ∃ w', (Instr.mapUpdate t (.map (some b)) key (.bool true)).run Tryz.prog w = .ok () w' ∧ SetMap k b (n + 1) (fun z => z = kl ∨ S z) w' ∧ w.grownBy w' (some b) := by
  obtain ⟨D, ho, hm, hs⟩ := h
  obtain ⟨w', hrun, ho', hg⟩ := ho.update K ht hn hkey (plainElem_bool Tryz.underlying4 true)
  refine ⟨w', hrun, ⟨_, ho', hm.put _ _, fun z => ?_⟩, hg⟩
  by_cases hz : z = kl
  · subst hz
    exact ⟨by rw [has_put_same hm (K.key hkey)]; simp, true, atKey_put_same hm (K.key hkey) _ _, by simp⟩
  · rw [has_put_other hz, atKey_put_other hz]
    obtain ⟨h4, x, h5, h6⟩ := hs z
    exact ⟨by rw [h4]; simp [hz], x, h5, by rw [h6]; simp [hz]⟩
/-- .. at the operation. -/
theorem wpList_set_store {ops : Array Oper} {rest : List Oper} {o : Oper} {a : Act} {Q : Exit → Act → World → Prop} (w : World)
    (hg : o.guard = none) (m x v : Operand) (t : TypeId) (hop : o.op = Op.mapUpdate t m x v) (k : TypeId) (K : Keyed Tryz.prog k) (ht : Tryz.prog.underlying t = some (.map k 4)) (b n : Nat) (S : Lit → Prop)
    (hm : a.eval m = .map (some b)) (hs : SetMap k b n S w) (hn : n < maxLen) (key : Value) (kl : Lit) (hx : a.eval x = key) (hv : a.eval v = .bool true) (hkey : keyOf Tryz.prog k key = some kl)
    (hK : ∀ w', SetMap k b (n + 1) (fun z => z = kl ∨ S z) w' → w.grownBy w' (some b) → wpList Tryz.prog ops Q rest (a.put o.dst undef) w') : wpList Tryz.prog ops Q (o :: rest) a w := by
  refine wpList_plain hg fun K' hK' => ?_
  obtain ⟨w', hrun, r1, r2⟩ := hs.store K ht hn hkey
  unfold Oper.wp
  simp [execOp, hop, hm, hx, hv, hrun, Result.andThen]
  exact hK' _ _ (hK w' r1 r2)
theorem wpList_set_look {ops : Array Oper} {rest : List Oper} {o : Oper} {a : Act} {Q : Exit → Act → World → Prop} (w : World)
    (hg : o.guard = none) (m x : Operand) (t : TypeId) (hop : o.op = Op.lookup t m x false) (k : TypeId) (K : Keyed Tryz.prog k) (ht : Tryz.prog.underlying t = some (.map k 4)) (b n : Nat) (S : Lit → Prop)
    (hm : a.eval m = .map (some b)) (hs : SetMap k b n S w) (key : Value) (kl : Lit) (hx : a.eval x = key) (hkey : keyOf Tryz.prog k key = some kl)
    (hK : ∀ c : Bool, (c = true ↔ S kl) → wpList Tryz.prog ops Q rest (a.put o.dst (.bool c)) w) : wpList Tryz.prog ops Q (o :: rest) a w := by
  refine wpList_plain hg fun K' hK' => ?_
  obtain ⟨c, hrun, hc⟩ := hs.look K ht hkey
  unfold Oper.wp
  simp [execOp, hop, hm, hx, hrun, Result.andThen]
  exact hK' _ _ (hK c hc)
theorem grown_below {B : Nat} {a w w' : World} {b : Nat} (h : Below B a w) (hB : B ≤ b) (hg : w.grownBy w' (some b)) (hw : B ≤ w.heap.size) : Below B a w' := h.grown hg hw (fun k hk => by cases hk; exact hB)
end Go.Proofs.YtbkcecilbpngcaaGreat
