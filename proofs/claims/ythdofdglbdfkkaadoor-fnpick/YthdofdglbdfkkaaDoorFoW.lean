/-
  Forests as they lie in memory: maps of integers; the forest's own blocks; what may turn.
-/
import Derived.Test.YthdofdglbdfkkaaDoorRows
import Derived.Test.YthdofdglbdfkkaaDoorFoB
import Derived.Test.YthdofdglbdfkkaaDoorMapB
import Derived.Test.YthdofdglbdfkkaaDoorBdL
import Derived.Test.YthdofdglbdfkkaaDoorBdY
import Derived.Maps.OwnSet
namespace Go.Proofs.YthdofdglbdfkkaaDoor
open Go.ChangeShapes Go.WideShapes Go.ChangeAt Go.RowKit Go.Maps Go.ChangeMaps
set_option linter.unusedVariables false
set_option maxRecDepth 100000

theorem zeroInt (w : World) : (zeroValue 3).run Tryd.prog w = .ok (.int .i64 0) w := by kernel_rfl
/-- Block b is a map of integers: just those of which R tells. -/
def IntMap (k : TypeId) (b n : Nat) (R : Lit → Int → Prop) (w : World) : Prop :=
  ∃ D : DataW Unit, w.ownsMap Tryd.prog k (plainElem Tryd.prog 3) b n D ∧ IsMap D ∧ ∀ kl, (Maps.has D kl = true ↔ ∃ z, R kl z) ∧ ∀ z, R kl z → D.atKey kl (.lit (.int .i64 0)) = .lit (.int .i64 z)
theorem IntMap.lt {k : TypeId} {b n : Nat} {R : Lit → Int → Prop} {w : World} (h : IntMap k b n R w) : b < w.heap.size := by
  obtain ⟨D, ho, _⟩ := h
  exact ho.lt
theorem IntMap.made (k : TypeId) (w : World) : IntMap k w.heap.size 0 (fun _ _ => False) (w.alloc (.map #[] 0)) :=
  ⟨.map [], World.ownsMap_made _ _ _ _, isMap_empty, fun kl => ⟨by simp [Maps.has], fun z h => h.elim⟩⟩
theorem IntMap.of_block {k : TypeId} {b n : Nat} {R : Lit → Int → Prop} {w w' : World} (h : IntMap k b n R w) (hb : w'.heap[b]? = w.heap[b]?) : IntMap k b n R w' := by
  obtain ⟨D, ⟨es, c, h1, h2⟩, h3⟩ := h
  exact ⟨D, ⟨es, c, hb.trans h1, h2⟩, h3⟩
theorem IntMap.iff {k : TypeId} {b n : Nat} {R S : Lit → Int → Prop} {w : World} (h : IntMap k b n R w) (hst : ∀ q z, R q z ↔ S q z) : IntMap k b n S w := by
  obtain ⟨D, h1, h2, h3⟩ := h
  exact ⟨D, h1, h2, fun kl => ⟨(h3 kl).1.trans ⟨fun ⟨z, hz⟩ => ⟨z, (hst _ _).1 hz⟩, fun ⟨z, hz⟩ => ⟨z, (hst _ _).2 hz⟩⟩, fun z hz => (h3 kl).2 z ((hst _ _).2 hz)⟩⟩
theorem IntMap.mono {k : TypeId} {b n m : Nat} {R : Lit → Int → Prop} {w : World} (h : IntMap k b n R w) (hm : n ≤ m) : IntMap k b m R w := by
  obtain ⟨D, h1, h2⟩ := h
  exact ⟨D, h1.mono hm, h2⟩
/-- The block's own shape. -/
theorem IntMap.shape {k : TypeId} {b n : Nat} {R : Lit → Int → Prop} {w : World} (h : IntMap k b n R w) : ∃ es c, w.heap[b]? = some (.map es c) := by
  obtain ⟨D, ⟨es, c, h1, h2⟩, h3⟩ := h
  exact ⟨es, c, h1⟩
theorem IntMap.look {k t : TypeId} {b n : Nat} {R : Lit → Int → Prop} {w : World} (h : IntMap k b n R w) (K : Keyed Tryd.prog k) (ht : Tryd.prog.underlying t = some (.map k 3)) {key : Value} {kl : Lit} (hkey : keyOf Tryd.prog k key = some kl) :
    ∃ z ok, (∀ u : World, u.heap[b]? = w.heap[b]? → (Instr.lookup t (.map (some b)) key true).run Tryd.prog u = .ok (.tuple #[.int .i64 z, .bool ok]) u) ∧ (ok = true → R kl z) ∧ (ok = false → ∀ y, ¬ R kl y) := by
  obtain ⟨D, ho, hm, hs⟩ := h
  have key1 : ∀ u : World, u.heap[b]? = w.heap[b]? → ∃ z, (Instr.lookup t (.map (some b)) key true).run Tryd.prog u = .ok (.tuple #[.int .i64 z, .bool (Maps.has D kl)]) u ∧ D.atKey kl (.lit (.int .i64 0)) = .lit (.int .i64 z) := fun u hu => by
    obtain ⟨es, c, h1, h2⟩ := ho
    have hou : u.ownsMap Tryd.prog k (plainElem Tryd.prog 3) b n D := ⟨es, c, hu.trans h1, h2⟩
    obtain ⟨v, ps, hrun, hv⟩ := hou.look_ok K ht (zeroInt u) (plainElem_int Tryd.underlying3 (by decide)) hkey
    obtain ⟨a, rfl, hz, -⟩ := plainElem_int_inv Tryd.underlying3 hv
    simp only [Prod.mk.injEq] at hz
    exact ⟨a, hrun, hz.1⟩
  obtain ⟨z, -, hz⟩ := key1 w rfl
  refine ⟨z, Maps.has D kl, fun u hu => ?_, fun hok => ?_, fun hok y hy => ?_⟩
  · obtain ⟨z', h1, h2⟩ := key1 u hu
    rw [hz] at h2
    simp only [DataW.lit.injEq, Lit.int.injEq, true_and] at h2
    rw [h1, h2]
  · obtain ⟨y, hy⟩ := (hs kl).1.1 hok
    have e := (hs kl).2 y hy
    rw [hz] at e
    simp only [DataW.lit.injEq, Lit.int.injEq, true_and] at e
    rw [e]; exact hy
  · have := (hs kl).1.2 ⟨y, hy⟩
    rw [hok] at this; cases this
theorem IntMap.store {k t : TypeId} {b n : Nat} {R : Lit → Int → Prop} {w : World} (h : IntMap k b n R w) (K : Keyed Tryd.prog k) (ht : Tryd.prog.underlying t = some (.map k 3)) (hn : n < maxLen) {key : Value} {kl : Lit} (hkey : keyOf Tryd.prog k key = some kl) {z : Int} (hz : fits z) :
    ∃ w', (Instr.mapUpdate t (.map (some b)) key (.int .i64 z)).run Tryd.prog w = .ok () w' ∧ IntMap k b (n + 1) (fun q y => (q = kl ∧ y = z) ∨ (q ≠ kl ∧ R q y)) w' ∧ w.grownBy w' (some b) := by
  obtain ⟨D, ho, hm, hs⟩ := h
  have hw : (Lit.int .i64 z).wf = true := hz
  obtain ⟨w', hrun, ho', hg⟩ := ho.update K ht hn hkey (plainElem_int Tryd.underlying3 hw)
  refine ⟨w', hrun, ⟨_, ho', hm.put _ _, fun q => ?_⟩, hg⟩
  by_cases hq : q = kl
  · subst hq
    exact ⟨⟨fun _ => ⟨z, .inl ⟨rfl, rfl⟩⟩, fun _ => has_put_same hm (K.key hkey) _⟩, fun y hy => by
      rcases hy with ⟨-, rfl⟩ | ⟨h1, -⟩
      · exact atKey_put_same hm (K.key hkey) _ _
      · exact absurd rfl h1⟩
  · rw [has_put_other hq, atKey_put_other hq]
    obtain ⟨h4, h5⟩ := hs q
    exact ⟨h4.trans ⟨fun ⟨y, hy⟩ => ⟨y, .inr ⟨hq, hy⟩⟩, fun ⟨y, hy⟩ => by
      rcases hy with ⟨h1, -⟩ | ⟨-, h2⟩
      · exact absurd h1 hq
      · exact ⟨y, h2⟩⟩, fun y hy => by
      rcases hy with ⟨h1, -⟩ | ⟨-, h2⟩
      · exact absurd h1 hq
      · exact h5 y h2⟩
/-- .. at the operation. -/
theorem wpList_int_store {ops : Array Oper} {rest : List Oper} {o : Oper} {a : Act} {Q : Exit → Act → World → Prop} (w : World)
    (hg : o.guard = none) (m x v : Operand) (t : TypeId) (hop : o.op = Op.mapUpdate t m x v) (k : TypeId) (K : Keyed Tryd.prog k) (ht : Tryd.prog.underlying t = some (.map k 3)) (b n : Nat) (R : Lit → Int → Prop)
    (hm : a.eval m = .map (some b)) (hs : IntMap k b n R w) (hn : n < maxLen) (key : Value) (kl : Lit) (z : Int) (hz : fits z) (hx : a.eval x = key) (hv : a.eval v = .int .i64 z) (hkey : keyOf Tryd.prog k key = some kl)
    (hK : ∀ w', IntMap k b (n + 1) (fun q y => (q = kl ∧ y = z) ∨ (q ≠ kl ∧ R q y)) w' → w.grownBy w' (some b) → wpList Tryd.prog ops Q rest (a.put o.dst undef) w') : wpList Tryd.prog ops Q (o :: rest) a w := by
  refine wpList_plain hg fun K' hK' => ?_
  obtain ⟨w', hrun, r1, r2⟩ := hs.store K ht hn hkey hz
  unfold Oper.wp
  simp [execOp, hop, hm, hx, hv, hrun, Result.andThen]
  exact hK' _ _ (hK w' r1 r2)
theorem step_int_store {ops : Array Oper} {o : Oper} {a : Act} {K : Act → World → Prop} {Q : Exit → Act → World → Prop} {E : Prop} (w : World)
    (hg : o.guard = none) (m x v : Operand) (t : TypeId) (hop : o.op = Op.mapUpdate t m x v) (k : TypeId) (hk : Keyed Tryd.prog k) (ht : Tryd.prog.underlying t = some (.map k 3)) (b n : Nat) (R : Lit → Int → Prop)
    (hm : a.eval m = .map (some b)) (hs : IntMap k b n R w) (hn : n < maxLen) (key : Value) (kl : Lit) (z : Int) (hz : fits z) (hx : a.eval x = key) (hv : a.eval v = .int .i64 z) (hkey : keyOf Tryd.prog k key = some kl)
    (hK : ∀ w', IntMap k b (n + 1) (fun q y => (q = kl ∧ y = z) ∨ (q ≠ kl ∧ R q y)) w' → w.grownBy w' (some b) → K (a.put o.dst undef) w') :
    if Region.wanted o (yielded ops a.tmps) = true then Oper.wp Tryd.prog o a w K Q else E := by
  have hw : Region.wanted o (yielded ops a.tmps) = true := by simp [Region.wanted, hg]
  rw [if_pos hw]
  obtain ⟨w', hrun, r1, r2⟩ := hs.store hk ht hn hkey hz
  unfold Oper.wp
  simp [execOp, hop, hm, hx, hv, hrun, Result.andThen]
  exact hK w' r1 r2

theorem mapNI : Tryd.prog.underlying 93 = some (.map 67 3) := Tryd.underlying93
theorem mapPI : Tryd.prog.underlying 94 = some (.map 99 3) := Tryd.underlying94
theorem prK : Keyed Tryd.prog 99 := Keyed.of_law (deep_law_laid bnLaid (m := 2) (by omega) (of_decide_eq_true (by kernel_rfl)) (by kernel_rfl) (by rw [Tryd.underlying99]))
theorem prKeyType : Tryd.prog.keyType 99 = true := by kernel_rfl
def prAgg (r a b : Int) : Value := .agg #[.int .i64 r, .int .i64 a, .int .i64 b]
theorem prAgg_inj {r a b r' a' b' : Int} (h : prAgg r a b = prAgg r' a' b') : r = r' ∧ a = a' ∧ b = b' := by
  unfold prAgg at h
  simpa using h
theorem keyOf_pr (r a b : Int) (h1 : fits r) (h2 : fits a) (h3 : fits b) : ∃ kl, keyOf Tryd.prog 99 (prAgg r a b) = some kl := by
  obtain ⟨m, hm⟩ := bnSize
  have w1 : (Lit.int .i64 r).wf = true := h1
  have w2 : (Lit.int .i64 a).wf = true := h2
  have w3 : (Lit.int .i64 b).wf = true := h3
  have c3 : Tryd.prog.cellsOf 99 = 3 := by kernel_rfl
  have c1 : Tryd.prog.cellsOf 3 = 1 := by kernel_rfl
  have c2 : Tryd.prog.cellsOf 73 = 1 := by kernel_rfl
  unfold keyOf prAgg
  simp only [Tryd.underlying99]
  rw [if_pos (by simp [prKeyType, Value.formed, Tryd.underlying99, c3]), hm]
  unfold Program.keyLits
  simp only [Tryd.underlying99, Value.cells]
  rw [if_pos (by rw [c3]; exact ⟨rfl, by first | rfl | kernel_rfl | simp⟩)]
  simp only [List.mapM_cons, List.mapM_nil]
  simp [c1, c2, Program.keyLits, Tryd.underlying3, Tryd.underlying73, w1, w2, w3]
/-- What the table of nodes tells. -/
def PlcR (F : List BN) (q : Lit) (z : Int) : Prop := ∃ k : Nat, k < F.length ∧ keyOf Tryd.prog 67 (bnAgg (F.getD k default)) = some q ∧ z = (k : Int) + 2
/-- What the table of pairs tells. -/
def PrsR (vars : Int) (F : List BN) (q : Lit) (z : Int) : Prop := ∃ r a b, keyOf Tryd.prog 99 (prAgg r a b) = some q ∧ PairF vars r a b F z
/-- A forest in memory. -/
structure ForestAt (vars : Int) (fb mb pb : Nat) (v : Value) (F : List BN) (np : Nat) (w : World) : Prop where
  blk : w.heap[fb]? = some (.cells #[v, .map (some mb), .map (some pb)] 96 (0, 0))
  own : OwnN w 0 v F
  plc : IntMap 67 mb F.length (PlcR F) w
  prs : ∃ M : Lit → Int → Prop, IntMap 99 pb np M w ∧ ∀ q z, M q z → PrsR vars F q z
  frs : Frs vars F
  mp : mb ≠ pb
/-- Block g is one of the forest's. -/
def FB (fb mb pb : Nat) (v : Value) (g : Nat) : Prop := g = fb ∨ g = mb ∨ g = pb ∨ v.ownBlock = some g
theorem ForestAt.lt {vars : Int} {fb mb pb : Nat} {v : Value} {F : List BN} {np : Nat} {w : World} (h : ForestAt vars fb mb pb v F np w) {g : Nat} (hg : FB fb mb pb v g) : g < w.heap.size := by
  rcases hg with rfl | rfl | rfl | hg
  · exact (Array.getElem?_eq_some_iff.1 h.blk).1
  · exact h.plc.lt
  · obtain ⟨M, h1, -⟩ := h.prs
    exact h1.lt
  · exact (h.own.1.lt g hg).2
theorem own_shape {w : World} {base : Nat} {v : Value} {ns : List BN} (h : OwnN w base v ns) {g : Nat} (hg : v.ownBlock = some g) : ∃ cur, w.heap[g]? = some (.cells cur 67 (0, 0)) := by
  obtain ⟨⟨-, h1⟩, -⟩ := h
  rcases h1 with ⟨rfl, -⟩ | ⟨g', cap, cur, rfl, -, h2, -⟩
  · simp [Value.ownBlock] at hg
  · simp only [Value.ownBlock, Option.some.injEq] at hg
    subst hg
    exact ⟨cur, h2⟩
theorem ForestAt.ne {vars : Int} {fb mb pb : Nat} {v : Value} {F : List BN} {np : Nat} {w : World} (h : ForestAt vars fb mb pb v F np w) : fb ≠ mb ∧ fb ≠ pb ∧ v.ownBlock ≠ some fb ∧ v.ownBlock ≠ some mb ∧ v.ownBlock ≠ some pb := by
  obtain ⟨M, h1, -⟩ := h.prs
  obtain ⟨e1, c1, s1⟩ := h.plc.shape
  obtain ⟨e2, c2, s2⟩ := h1.shape
  have s0 := h.blk
  refine ⟨fun e => ?_, fun e => ?_, fun e => ?_, fun e => ?_, fun e => ?_⟩
  · subst e; rw [s0] at s1; cases s1
  · subst e; rw [s0] at s2; cases s2
  · obtain ⟨cur, s3⟩ := own_shape h.own e
    rw [s0] at s3; cases s3
  · obtain ⟨cur, s3⟩ := own_shape h.own e
    rw [s1] at s3; cases s3
  · obtain ⟨cur, s3⟩ := own_shape h.own e
    rw [s2] at s3; cases s3
theorem ForestAt.keep {vars : Int} {fb mb pb : Nat} {v : Value} {F : List BN} {np : Nat} {w w' : World} (h : ForestAt vars fb mb pb v F np w) (hk : ∀ g, FB fb mb pb v g → w'.heap[g]? = w.heap[g]?) : ForestAt vars fb mb pb v F np w' := by
  obtain ⟨M, h1, h2⟩ := h.prs
  exact ⟨(hk _ (.inl rfl)).trans h.blk, h.own.block (fun g _ _ hg => hk g (.inr (.inr (.inr hg)))), h.plc.of_block (hk _ (.inr (.inl rfl))), ⟨M, h1.of_block (hk _ (.inr (.inr (.inl rfl)))), h2⟩, h.frs, h.mp⟩
theorem ForestAt.below {vars : Int} {fb mb pb : Nat} {v : Value} {F : List BN} {np : Nat} {w w' : World} (h : ForestAt vars fb mb pb v F np w) (hb : Below w.heap.size w w') : ForestAt vars fb mb pb v F np w' := h.keep (fun g hg => hb.block g (h.lt hg))
theorem ForestAt.bns {vars : Int} {fb mb pb : Nat} {v : Value} {F : List BN} {np : Nat} {w : World} (h : ForestAt vars fb mb pb v F np w) : ∃ a cap, v = .slice a F.length cap ∧ BnsAt w.heap.size w a F.length cap F := by
  obtain ⟨a, cap, rfl, -⟩ := OwnN.form h.own
  exact ⟨a, cap, rfl, OwnN.bns h.own rfl⟩
/-- What a call on a forest turns: the forest's blocks alone; its nodes may come to lie in a new block. -/
structure FStep (fb mb pb : Nat) (v : Value) (w : World) (v' : Value) (w' : World) : Prop where
  os : w'.os = w.os
  tape : w'.tape = w.tape
  output : w'.output = w.output
  size : w.heap.size ≤ w'.heap.size
  block : ∀ k, k < w.heap.size → ¬ FB fb mb pb v k → w'.heap[k]? = w.heap[k]?
  own : ∀ g, v'.ownBlock = some g → v.ownBlock = some g ∨ w.heap.size ≤ g
theorem FStep.of_below {fb mb pb : Nat} {v : Value} {w w' : World} (h : Below w.heap.size w w') : FStep fb mb pb v w v w' := ⟨h.os, h.tape, h.output, h.size, fun k hk _ => h.block k hk, fun g hg => .inl hg⟩
theorem FStep.refl (fb mb pb : Nat) (v : Value) (w : World) : FStep fb mb pb v w v w := .of_below (Below.refl _ _)
theorem FStep.trans {fb mb pb : Nat} {v v1 v2 : Value} {w w1 w2 : World} (h : FStep fb mb pb v w v1 w1) (k : FStep fb mb pb v1 w1 v2 w2) : FStep fb mb pb v w v2 w2 :=
  ⟨k.os.trans h.os, k.tape.trans h.tape, k.output.trans h.output, Nat.le_trans h.size k.size, fun i hi hn => (k.block i (Nat.lt_of_lt_of_le hi h.size) (fun hf => hn (by
    rcases hf with hf | hf | hf | hf
    · exact .inl hf
    · exact .inr (.inl hf)
    · exact .inr (.inr (.inl hf))
    · rcases h.own i hf with h1 | h1
      · exact .inr (.inr (.inr h1))
      · omega))).trans (h.block i hi hn), fun g hg => by
    rcases k.own g hg with h1 | h1
    · exact h.own g h1
    · exact .inr (Nat.le_trans h.size h1)⟩
theorem FStep.then {fb mb pb : Nat} {v v1 : Value} {w w1 w2 : World} (h : FStep fb mb pb v w v1 w1) (hb : Below w1.heap.size w1 w2) : FStep fb mb pb v w v1 w2 := h.trans (.of_below hb)
theorem FStep.below {B fb mb pb : Nat} {v v' : Value} {w w' : World} (h : FStep fb mb pb v w v' w') (hB : B ≤ w.heap.size) (hf : ∀ g, FB fb mb pb v g → B ≤ g) : Below B w w' :=
  ⟨h.os, h.tape, h.output, h.size, fun k hk => h.block k (by omega) (fun hg => by have := hf k hg; omega)⟩
/-- A forest whose nodes have been appended to, its table of nodes not yet. -/
structure ForestMid (vars : Int) (fb mb pb : Nat) (v : Value) (F : List BN) (n : BN) (np : Nat) (w : World) : Prop where
  blk : w.heap[fb]? = some (.cells #[v, .map (some mb), .map (some pb)] 96 (0, 0))
  own : OwnN w 0 v (F ++ [n])
  plc : IntMap 67 mb F.length (PlcR F) w
  prs : ∃ M : Lit → Int → Prop, IntMap 99 pb np M w ∧ ∀ q z, M q z → PrsR vars F q z
  mp : mb ≠ pb
  nmb : v.ownBlock ≠ some mb
theorem forest_app {vars : Int} {fb mb pb : Nat} {a : Option Addr} {cap : Nat} {F : List BN} {np : Nat} {n : BN} {w w4 : World} {wd : World} {o : Obj} {g cap' : Nat} (h : ForestAt vars fb mb pb (.slice a F.length cap) F np w) (hok : n.ok) (hd : wd.heap = w.heap) (hd1 : wd.os = w.os) (hd2 : wd.tape = w.tape) (hd3 : wd.output = w.output)
    (hown : w4.ownsRow 0 67 3 (.slice (some ⟨g, 0, none⟩) (F.length + 1) cap') (F.length + 1) (F.flatMap BN.cells ++ [.int .i64 n.v, .int .i64 n.lo, .int .i64 n.hi])) (hg : (wd.alloc o).grownBy w4 (Value.slice a F.length cap).ownBlock)
    (hat : (Value.slice a F.length cap).ownBlock = some g ∨ g = (wd.alloc o).heap.size) :
    ForestMid vars fb mb pb (.slice (some ⟨g, 0, none⟩) (F.length + 1) cap') F n np (w4.setCell ⟨fb, 0, none⟩ (.slice (some ⟨g, 0, none⟩) (F.length + 1) cap')) ∧
      FStep fb mb pb (.slice a F.length cap) w (.slice (some ⟨g, 0, none⟩) (F.length + 1) cap') (w4.setCell ⟨fb, 0, none⟩ (.slice (some ⟨g, 0, none⟩) (F.length + 1) cap')) := by
  have hsz : (wd.alloc o).heap.size = w.heap.size + 1 := by show (wd.heap.push o).size = _; rw [hd]; simp
  have hal : ∀ k, k < w.heap.size → (wd.alloc o).heap[k]? = w.heap[k]? := fun k hk => by
    have := Below.heap_alloc wd o k (by rw [hd]; exact hk)
    rw [this, hd]
  have hk4 : ∀ k, k < w.heap.size → (Value.slice a F.length cap).ownBlock ≠ some k → w4.heap[k]? = w.heap[k]? := fun k hk hn => (hg.block k (by omega) (fun e => hn e.symm)).trans (hal k hk)
  obtain ⟨n1, n2, n3, n4, n5⟩ := h.ne
  have lf := h.lt (.inl rfl)
  have lm := h.lt (.inr (.inl rfl))
  have lp := h.lt (.inr (.inr (.inl rfl)))
  have gne : ∀ k, k < w.heap.size → (Value.slice a F.length cap).ownBlock ≠ some k → g ≠ k := fun k hk hn e => by
    rcases hat with h1 | h1
    · exact hn (by rw [h1, e])
    · omega
  have hset : ∀ k, k ≠ fb → (w4.setCell ⟨fb, 0, none⟩ (.slice (some ⟨g, 0, none⟩) (F.length + 1) cap')).heap[k]? = w4.heap[k]? := fun k hk => heap_setCell_other _ _ _ _ hk
  obtain ⟨M, m1, m2⟩ := h.prs
  refine ⟨⟨?_, ?_, ?_, ⟨M, ?_, m2⟩, h.mp, ?_⟩, ⟨?_, ?_, ?_, ?_, ?_, ?_⟩⟩
  · exact heap_setCell_same _ _ 0 _ _ _ ((hk4 fb lf n3).trans h.blk)
  · have h1 : OwnN w4 0 (.slice (some ⟨g, 0, none⟩) (F.length + 1) cap') (F ++ [n]) := h.own.app (ms := [n]) (fun y hy => by simp at hy; rw [hy]; exact hok) hown
    refine h1.block (fun y _ _ hy => hset y (fun e => ?_))
    simp only [Value.ownBlock, Option.some.injEq] at hy
    exact gne fb lf n3 (hy.trans e)
  · exact h.plc.of_block ((hset mb (fun e => n1 e.symm)).trans (hk4 mb lm n4))
  · exact m1.of_block ((hset pb (fun e => n2 e.symm)).trans (hk4 pb lp n5))
  · intro e
    simp only [Value.ownBlock, Option.some.injEq] at e
    exact gne mb lm n4 e
  · exact hg.os.trans hd1
  · exact hg.tape.trans hd2
  · exact hg.output.trans hd3
  · have := hg.size
    show _ ≤ (w4.setCell _ _).heap.size
    simp [World.setCell]
    omega
  · intro k hk hn
    exact (hset k (fun e => hn (.inl e))).trans (hk4 k hk (fun e => hn (.inr (.inr (.inr e)))))
  · intro y hy
    simp only [Value.ownBlock, Option.some.injEq] at hy
    rcases hat with h1 | h1
    · exact .inl (by rw [h1, hy])
    · exact .inr (by omega)
theorem forest_put {vars : Int} {fb mb pb : Nat} {v : Value} {F : List BN} {n : BN} {np : Nat} {w w' : World} {kl : Lit} (h : ForestMid vars fb mb pb v F n np w) (hF : Frs vars F) (hF' : Frs vars (F ++ [n])) (hkl : keyOf Tryd.prog 67 (bnAgg n) = some kl) (hno : ∀ y, ¬ PlcR F kl y)
    (hm : IntMap 67 mb (F.length + 1) (fun q y => (q = kl ∧ y = (F.length : Int) + 2) ∨ (q ≠ kl ∧ PlcR F q y)) w') (hg : w.grownBy w' (some mb)) : ForestAt vars fb mb pb v (F ++ [n]) np w' ∧ FStep fb mb pb v w v w' := by
  have hk : ∀ k, k < w.heap.size → k ≠ mb → w'.heap[k]? = w.heap[k]? := fun k hk hn => hg.block k hk (fun e => hn (Option.some.inj e))
  obtain ⟨M, m1, m2⟩ := h.prs
  have n1 : fb ≠ mb := fun e => by
    obtain ⟨e1, c1, s1⟩ := h.plc.shape
    have s0 := h.blk
    rw [e, s1] at s0; cases s0
  refine ⟨⟨?_, ?_, ?_, ⟨M, ?_, fun q z hq => ?_⟩, hF', h.mp⟩, ⟨hg.os, hg.tape, hg.output, hg.size, fun k hk' hn => hk k hk' (fun e => hn (.inr (.inl e))), fun g hg' => .inl hg'⟩⟩
  · exact (hk fb (Array.getElem?_eq_some_iff.1 h.blk).1 n1).trans h.blk
  · exact h.own.block (fun y _ hy hy' => hk y hy (fun e => h.nmb (by rw [hy', e])))
  · have e : (F ++ [n]).length = F.length + 1 := by simp
    rw [e]
    refine hm.iff (fun q z => ⟨?_, ?_⟩)
    · rintro (⟨rfl, rfl⟩ | ⟨h1, k, h2, h3, h4⟩)
      · exact ⟨F.length, by simp, by rw [getD_last]; exact hkl, rfl⟩
      · exact ⟨k, by simp; omega, by rw [getD_app h2]; exact h3, h4⟩
    · rintro ⟨k, h1, h2, h3⟩
      rw [e] at h1
      rcases Nat.lt_or_ge k F.length with hlt | hge
      · rw [getD_app hlt] at h2
        refine .inr ⟨fun e => ?_, k, hlt, h2, h3⟩
        subst e
        exact hno z ⟨k, hlt, h2, h3⟩
      · obtain rfl : k = F.length := by omega
        rw [getD_last, hkl] at h2
        exact .inl ⟨(Option.some.inj h2).symm, h3⟩
  · exact m1.of_block (hk pb m1.lt (fun e => h.mp e.symm))
  · obtain ⟨r, a, b, h1, h2⟩ := m2 q z hq
    exact ⟨r, a, b, h1, h2.app hF _⟩
end Go.Proofs.YthdofdglbdfkkaaDoor
