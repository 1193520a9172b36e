/-
  What is of use everywhere: slices of rows in memory, answers that are bools, worlds that become letters, copies, marks, sets.
-/
import Derived.Test.YthdofdglbdfkkaaDoorRows
import Derived.Test.YthdofdglbdfkkaaDoorPaA
import Derived.Test.YthdofdglbdfkkaaDoorMapB
import Derived.WalkKit
import Derived.ProofKit
import Derived.OpenShut
import Derived.WalkSpells
import Derived.WalkLawsBesides
import Derived.Outline
import Derived.BigQuiet
import Derived.Handy
import Derived.LoopTactic
import Derived.Deep.Light
import Derived.Deep.Slices
import Derived.Deep.RegionWith
import Derived.Deep.RegionHeld3
import Derived.Deep.DeepCutAuto
import Derived.Lib.Hide
import Derived.Lib.SmallJoins
import Derived.Deep.MidRow
import Derived.Laws.BytesArg
import Derived.Maps.OwnRows
import Derived.Deep.Onto
namespace Go.Proofs.YthdofdglbdfkkaaDoor
open Go.ChangeShapes Go.WideShapes Go.ChangeAt Go.RowKit Go.Maps Go.ChangeMaps
set_option linter.unusedVariables false
set_option maxRecDepth 100000

def intCells (x : Int) : List Value := [.int .i64 x]
/-- A slice of rows of c cells each lies below B. -/
def RowsAt {α : Type} (cells : α → List Value) (ok : α → Prop) (c B : Nat) (w : World) (a : Option Addr) (len cap : Nat) (ns : List α) : Prop :=
  ns.length = len ∧ len ≤ cap ∧ cap ≤ maxLen ∧ (∀ x ∈ ns, ok x) ∧ (a = none → cap = 0) ∧
  (len = 0 ∨ ∃ b off, a = some ⟨b, off, none⟩ ∧ b < B ∧ ∀ i (h : i < ns.length) j, j < c → w.cell? ⟨b, off + i * c + j, none⟩ = (cells ns[i])[j]?)
abbrev IntsAt := RowsAt intCells fits 1
theorem RowsAt.below {α : Type} {cells : α → List Value} {ok : α → Prop} {c B : Nat} {w w' : World} {a : Option Addr} {len cap : Nat} {ns : List α} (h : RowsAt cells ok c B w a len cap ns) (hb : Below B w w') : RowsAt cells ok c B w' a len cap ns := by
  obtain ⟨h1, h2, h3, h4, h5, h6⟩ := h
  refine ⟨h1, h2, h3, h4, h5, ?_⟩
  rcases h6 with h6 | ⟨b, off, e, hlt, hc⟩
  · exact .inl h6
  · exact .inr ⟨b, off, e, hlt, fun i hi j hj => (hb.cell (p := ⟨b, off + i * c + j, none⟩) hlt).trans (hc i hi j hj)⟩
theorem RowsAt.mono {α : Type} {cells : α → List Value} {ok : α → Prop} {c B B' : Nat} {w : World} {a : Option Addr} {len cap : Nat} {ns : List α} (h : RowsAt cells ok c B w a len cap ns) (hB : B ≤ B') : RowsAt cells ok c B' w a len cap ns := by
  obtain ⟨h1, h2, h3, h4, h5, h6⟩ := h
  refine ⟨h1, h2, h3, h4, h5, ?_⟩
  rcases h6 with h6 | ⟨b, off, e, hlt, hc⟩
  · exact .inl h6
  · exact .inr ⟨b, off, e, Nat.lt_of_lt_of_le hlt hB, hc⟩
/-- The header of a slice. -/
structure SL where
  a : Option Addr
  len : Nat
  cap : Nat
theorem keepc {w w' : World} {g o : Nat} {v : Value} (hb : Below w.heap.size w w') (hg : g < w.heap.size) (h : w.cell? ⟨g, o, none⟩ = some v) : w'.cell? ⟨g, o, none⟩ = some v :=
  (hb.cell (p := ⟨g, o, none⟩) hg).trans h
theorem bd {B : Nat} {a w : World} {n : Nat} (h : Below B a w) : Below B a (w.drewN n) := below_drewN h n
/-- A call answers whether P. -/
def BoolIs (P : Prop) (e : Ending) : Prop := ∃ r : Bool, e = .returned (.bool r) ∧ (r = true ↔ P)
theorem BoolIs.yes {P : Prop} (h : P) : BoolIs P (.returned (.bool true)) := ⟨true, rfl, by simpa using h⟩
theorem BoolIs.no {P : Prop} (h : ¬ P) : BoolIs P (.returned (.bool false)) := ⟨false, rfl, by simpa using h⟩
theorem boolIs_t {P : Prop} {e : Ending} (h : P) (hb : BoolIs P e) : e = .returned (.bool true) := by
  obtain ⟨r, rfl, hr⟩ := hb
  rw [hr.2 h]
theorem boolIs_f {P : Prop} {e : Ending} (h : ¬ P) (hb : BoolIs P e) : e = .returned (.bool false) := by
  obtain ⟨r, rfl, hr⟩ := hb
  cases r
  · rfl
  · exact absurd (hr.1 rfl) h
theorem code_gen {P : Program} {C : Code} {Q : Exit → Act → World → Prop} {A : Act} {W : World} {R : World → Prop} (hR : R W) (h : ∀ wc, R wc → Code.wp P C Q A wc) : Code.wp P C Q A W := h W hR
/-- One number of a slice, as a walk comes to it. -/
theorem int_at {B : Nat} {w : World} {a : Option Addr} {len cap k : Nat} {ps : List Int} (h : IntsAt B w a len cap ps) (hk : k < len) :
    ∃ (p : Int) (b off : Nat), ps.getD k 0 = p ∧ fits p ∧ a = some ⟨b, off, none⟩ ∧ b < B ∧ w.cell? ⟨b, off + k, none⟩ = some (.int .i64 p) := by
  obtain ⟨h1, h2, h3, h4, h5, h6⟩ := h
  have hk' : k < ps.length := by omega
  have hg : ps.getD k 0 = ps[k] := by simp [List.getD, hk']
  rcases h6 with h6 | ⟨b, off, e, hlt, hc⟩
  · omega
  · exact ⟨_, b, off, hg, h4 _ (List.getElem_mem ..), e, hlt, by have := hc k hk' 0 (by decide); simp only [Nat.mul_one, Nat.add_zero] at this; exact this⟩
theorem below_drew {B : Nat} {w w' : World} (h : Below B w w') : Below B w w' := h
/-- A block's cells that can be written. -/
def Room (w : World) (g n : Nat) : Prop := g < w.heap.size ∧ w.there g 0 n
theorem there_below {w w' : World} {b o n : Nat} (h : w.there b o n) (hb : Below w.heap.size w w') (hlt : b < w.heap.size) : w'.there b o n :=
  fun j hj => ⟨by rw [hb.cell (p := ⟨b, o + j, none⟩) hlt]; exact (h j hj).1, by rw [hb.frozen (p := ⟨b, o + j, none⟩) hlt]; exact (h j hj).2⟩
theorem there_part {w : World} {b n o m : Nat} (h : w.there b 0 n) (hm : o + m ≤ n) : w.there b o m := fun j hj => by
  have := h (o + j) (by omega)
  simpa using this
theorem below_setCells {B : Nat} {w w' : World} (h : Below B w w') {b : Nat} (hb : B ≤ b) : ∀ (vs : List Value) (o : Nat) {w'' : World}, Below B w w'' → Below B w (w''.setCells b o vs)
  | [], _, _, k => k
  | v :: vs, o, w'', k => below_setCells h hb vs (o + 1) (k.setCell hb v)
theorem size_setCells (b : Nat) : ∀ (vs : List Value) (o : Nat) (w : World), (w.setCells b o vs).heap.size = w.heap.size
  | [], _, _ => rfl
  | v :: vs, o, w => (size_setCells b vs (o + 1) _).trans (by simp)
theorem intInfo : (Tryd.prog.info? 3).map (fun i => (i.zero, i.size, i.bytes)) = some (some (.int .i64 0), 1, 8) := by kernel_rfl
/-- The first j rows are copied into the block that lies at the end of w. -/
def CopiedR {α : Type} (cells : α → List Value) (c : Nat) (ns : List α) (len : Nat) (w : World) (i : Value) (wr : World) : Prop :=
  ∃ j : Nat, j ≤ len ∧ i = .int .i64 j ∧ w.heap.size < wr.heap.size ∧ wr.there w.heap.size 0 (len * c) ∧
    (∀ t (h : t < ns.length), t < j → ∀ q, q < c → wr.cell? ⟨w.heap.size, t * c + q, none⟩ = (cells ns[t])[q]?) ∧ Below w.heap.size w wr
theorem copiedR_next {α : Type} {cells : α → List Value} {c : Nat} (hlc : ∀ x, (cells x).length = c) {ns : List α} {len j : Nat} {w w1 : World} {nd : α} (hjl : j < len) (hjn : j < ns.length) (hl1 : w.heap.size < w1.heap.size) (hT : w1.there w.heap.size 0 (len * c))
    (hC : ∀ t (h : t < ns.length), t < j → ∀ q, q < c → w1.cell? ⟨w.heap.size, t * c + q, none⟩ = (cells ns[t])[q]?) (hB : Below w.heap.size w w1) (hnd : nd = ns[j]) :
    CopiedR cells c ns len w (.int .i64 ((j : Int) + 1)) (w1.setCells w.heap.size (j * c) (cells nd)) := by
  have hmul : ∀ t, t < len → t * c + c ≤ len * c := fun t ht => by have := Nat.mul_le_mul_right c (show t + 1 ≤ len by omega); rw [Nat.succ_mul] at this; exact this
  refine ⟨j + 1, by omega, by go_num, by rw [size_setCells]; exact hl1, World.there_setCells hT _ _ _, ?_, below_setCells hB (Nat.le_refl _) _ _ hB⟩
  intro t ht htj q hq
  by_cases e : t = j
  · subst e
    have hs := World.cell?_setCells_in w.heap.size (cells nd) (t * c) w1 (fun u hu => by have := hT (t * c + u) (by rw [hlc] at hu; have := hmul t hjl; omega); simpa using this.1) q (by rw [hlc]; exact hq)
    rw [hs, ← hnd]
    exact (List.getElem?_eq_getElem (by rw [hlc]; exact hq)).symm
  · have hs := World.cell?_setCells_out w.heap.size (cells nd) (j * c) w1 ⟨w.heap.size, t * c + q, none⟩ (fun _ _ => .inl (by show t * c + q < j * c; have := Nat.mul_le_mul_right c (show t + 1 ≤ j by omega); rw [Nat.succ_mul] at this; omega))
    exact hs.trans (hC t ht (by omega) q hq)
/-- What a copy hands back. -/
def CopyP {α : Type} (cells : α → List Value) (ok : α → Prop) (c : Nat) (ns : List α) (len : Nat) (w : World) (e : Ending) (w' : World) : Prop :=
  e = .returned (.slice (some ⟨w.heap.size, 0, none⟩) len len) ∧ RowsAt cells ok c w'.heap.size w' (some ⟨w.heap.size, 0, none⟩) len len ns ∧ Room w' w.heap.size (len * c) ∧ Below w.heap.size w w'
theorem there1 {w : World} {b n j : Nat} (h : w.there b 0 (n * 1)) (hj : j < n) : (∃ v, w.cell? ⟨b, j, none⟩ = some v) ∧ w.frozen? ⟨b, j, none⟩ = false := by
  have := h j (by omega)
  rw [Nat.zero_add] at this
  exact ⟨Option.isSome_iff_exists.1 this.1, this.2⟩
theorem cell_of_block {w : World} {g i : Nat} {cs : Array Value} {t : TypeId} (h : w.heap[g]? = some (.cells cs t (0, 0))) {v : Value} (hv : cs[i]? = some v) : w.cell? ⟨g, i, none⟩ = some v := (cell_of_row _ _ i cs t (0, 0) h).trans hv
theorem free_of_block {w : World} {g i : Nat} {cs : Array Value} {t : TypeId} (h : w.heap[g]? = some (.cells cs t (0, 0))) : w.frozen? ⟨g, i, none⟩ = false := by simp [World.frozen?, h]
def slOf (g len : Nat) : SL := ⟨some ⟨g, 0, none⟩, len, len⟩
theorem wpList_set_insert {ops : Array Oper} {rest : List Oper} {o : Oper} {a : Act} {Q : Exit → Act → World → Prop} (w : World)
    (hg : o.guard = none) (m x v : Operand) (t : TypeId) (hop : o.op = Op.insert t m x v) (k : TypeId) (K : Keyed Tryd.prog k) (ht : Tryd.prog.underlying t = some (.map k 4)) (b n : Nat) (S : Lit → Prop)
    (hm : a.eval m = .map (some b)) (hs : SetMap k b n S w) (hn : n < maxLen) (key : Value) (kl : Lit) (hx : a.eval x = key) (hv : a.eval v = .bool true) (hkey : keyOf Tryd.prog k key = some kl)
    (hK : ∀ w', SetMap k b (n + 1) (fun z => z = kl ∨ S z) w' → w.grownBy w' (some b) → wpList Tryd.prog ops Q rest (a.put o.dst undef) w') : wpList Tryd.prog ops Q (o :: rest) a w := by
  refine wpList_plain hg fun K' hK' => ?_
  obtain ⟨w', hrun, r1, r2⟩ := hs.store K ht hn hkey
  unfold Oper.wp
  simp [execOp, hop, hm, hx, hv, hrun, Result.andThen]
  exact hK' _ _ (hK w' r1 r2)
theorem fits_nat {j : Nat} (h : j ≤ 9223372036854775807) : (Lit.int .i64 (j : Int)).wf = true := WalkArith.wf_i64 (by omega)
theorem own_block {w w' : World} {base : Nat} {v : Value} {zs : List Int} (h : w.ownsInts base 3 .i64 v zs) (hb : ∀ g, base ≤ g → g < w.heap.size → v.ownBlock = some g → w'.heap[g]? = w.heap[g]?) : w'.ownsInts base 3 .i64 v zs := by
  have hl := h.1.lt
  obtain ⟨⟨h1, h2⟩, h3⟩ := h
  refine ⟨⟨h1, ?_⟩, h3⟩
  rcases h2 with h2 | ⟨g, cap, cur, rfl, hbs, hg, h4⟩
  · exact .inl h2
  · exact .inr ⟨g, cap, cur, rfl, hbs, (hb g hbs (hl g rfl).2 rfl).trans hg, h4⟩
theorem ownI_below {w w' : World} {base : Nat} {v : Value} {zs : List Int} (h : w.ownsInts base 3 .i64 v zs) (hb : Below w.heap.size w w') : w'.ownsInts base 3 .i64 v zs := own_block h (fun g _ hl _ => hb.block g hl)
theorem own_grow {w wb w1 : World} {o : Obj} {v : Value} {zs : List Int} (hB : Below w.heap.size w wb) (ho : wb.ownsInts w.heap.size 3 .i64 v zs) (hg : (wb.alloc o).grownBy w1 v.ownBlock) : Below w.heap.size w w1 :=
  (hB.alloc hB.size o).grown hg (Nat.le_trans hB.size (Nat.le_of_lt (alloc_ltS _ _))) (fun j hj => (ho.1.lt j hj).1)
theorem Room.below {g n : Nat} {w w' : World} (h : Room w g n) (hb : Below w.heap.size w w') : Room w' g n := ⟨Nat.lt_of_lt_of_le h.1 hb.size, there_below h.2 hb h.1⟩
theorem Room.set {g n : Nat} {w : World} (h : Room w g n) {b : Nat} (i : Nat) (v : Value) : Room (w.setCell ⟨b, i, none⟩ v) g n :=
  ⟨by simpa using h.1, (World.there_setCells h.2 b i [v])⟩
/-- Of what was there the blocks of T alone may have turned. -/
structure Touch (T : Nat → Prop) (w w' : World) : Prop where
  os : w'.os = w.os
  tape : w'.tape = w.tape
  output : w'.output = w.output
  size : w.heap.size ≤ w'.heap.size
  block : ∀ k, k < w.heap.size → ¬ T k → w'.heap[k]? = w.heap[k]?
  room : ∀ g n, Room w g n → Room w' g n
theorem Touch.refl (T : Nat → Prop) (w : World) : Touch T w w := ⟨rfl, rfl, rfl, Nat.le_refl _, fun _ _ _ => rfl, fun _ _ h => h⟩
theorem Touch.below {T : Nat → Prop} {w wb w' : World} (h : Touch T w wb) (hb : Below wb.heap.size wb w') : Touch T w w' :=
  ⟨hb.os.trans h.os, hb.tape.trans h.tape, hb.output.trans h.output, Nat.le_trans h.size hb.size, fun k hk hg => (hb.block k (Nat.lt_of_lt_of_le hk h.size)).trans (h.block k hk hg), fun g n hr => (h.room g n hr).below hb⟩
theorem Touch.trans {T : Nat → Prop} {w wb w' : World} (h : Touch T w wb) (k : Touch T wb w') : Touch T w w' :=
  ⟨k.os.trans h.os, k.tape.trans h.tape, k.output.trans h.output, Nat.le_trans h.size k.size, fun i hi hg => (k.block i (Nat.lt_of_lt_of_le hi h.size) hg).trans (h.block i hi hg), fun g n hr => k.room g n (h.room g n hr)⟩
theorem Touch.set {T : Nat → Prop} {g : Nat} (hT : T g) {w wb : World} (h : Touch T w wb) (i : Nat) (v : Value) : Touch T w (wb.setCell ⟨g, i, none⟩ v) :=
  ⟨h.os, h.tape, h.output, by simpa using h.size, fun k hk hg => (heap_setCell_other _ _ _ _ (fun e => hg (by have e' : k = g := e; rw [e']; exact hT))).trans (h.block k hk hg), fun g' n hr => (h.room g' n hr).set _ _⟩
/-- What lies below all blocks of T is as it was. -/
theorem Touch.belowAt {T : Nat → Prop} {B : Nat} {w w' : World} (h : Touch T w w') (hB : B ≤ w.heap.size) (hT : ∀ k, T k → B ≤ k) : Below B w w' :=
  ⟨h.os, h.tape, h.output, h.size, fun k hk => h.block k (Nat.lt_of_lt_of_le hk hB) (fun ht => by have := hT k ht; omega)⟩
theorem room_at {w : World} {g n j : Nat} (h : Room w g n) (hj : j < n) : (∃ v, w.cell? ⟨g, j, none⟩ = some v) ∧ w.frozen? ⟨g, j, none⟩ = false := by
  have := h.2 j hj
  rw [Nat.zero_add] at this
  exact ⟨Option.isSome_iff_exists.1 this.1, this.2⟩
theorem cv1 (wr : World) (x : Int) : (convert 22 9 (.slice (some ⟨wr.heap.size, 0, none⟩) 1 1)).run Tryd.prog (wr.alloc (.cells #[.int .u8 x] 5)) = .ok (.string (strOfNums [x])) (wr.alloc (.cells #[.int .u8 x] 5)) := by
  refine run_convert_bytes_arg _ 22 5 Tryd.underlying22 Tryd.underlying5 wr.heap.size 0 1 1 [x] rfl (fun i hi => ?_) 9 Tryd.underlying9
  obtain rfl : i = 0 := by omega
  exact World.cell?_alloc_new _ _ _ _
theorem digits_bound {n : Int} {m : Nat} (h : n * 10 ^ m ≤ 9223372036854775807) (hn : 0 < n) : m ≤ 18 := by
  rcases Nat.lt_or_ge 18 m with h1 | h1
  · exfalso
    obtain ⟨d, rfl⟩ : ∃ d, m = 19 + d := ⟨m - 19, by omega⟩
    have h2 : (1 : Int) ≤ 10 ^ d := Int.pow_pos (by decide)
    have h3 : (10 : Int) ^ (19 + d) = 10000000000000000000 * 10 ^ d := by rw [Int.pow_add]; rfl
    rw [h3] at h
    have h4 : n * (10000000000000000000 * 10 ^ d) ≥ 1 * (10000000000000000000 * 1) := Int.mul_le_mul (by omega) (by omega) (by decide) (by omega)
    omega
  · exact h1
theorem digits_next {n : Int} {m : Nat} (h : n * 10 ^ m ≤ 9223372036854775807) (hn : 0 < n) : n / 10 * 10 ^ (m + 1) ≤ 9223372036854775807 := by
  have h1 : n / 10 * 10 ≤ n := by omega
  have h2 : (0 : Int) ≤ 10 ^ m := Int.le_of_lt (Int.pow_pos (by decide))
  have h3 : n / 10 * 10 ^ (m + 1) = n / 10 * 10 * 10 ^ m := by rw [Int.pow_succ, Int.mul_assoc, Int.mul_comm (10 ^ m) 10]
  rw [h3]
  exact Int.le_trans (Int.mul_le_mul_of_nonneg_right h1 h2) h
/-- A row of one's own, as a slice of numbers. -/
theorem own_form {w : World} {base : Nat} {v : Value} {zs : List Int} (h : w.ownsInts base 3 .i64 v zs) :
    ∃ a cap, v = .slice a zs.length cap ∧ ((a = none ∧ zs.length = 0 ∧ cap = 0) ∨ ∃ g, a = some ⟨g, 0, none⟩ ∧ base ≤ g ∧ Room w g (zs.length * 1)) := by
  have hl := h.1.lt
  obtain ⟨⟨h1, h2⟩, h3⟩ := h
  rcases h2 with ⟨rfl, hz⟩ | ⟨g, cap, cur, rfl, hb, hg, hn, hm, hs, hx⟩
  · exact ⟨none, 0, by rw [hz], .inl ⟨rfl, hz, rfl⟩⟩
  · have hrow : w.ownsRow base 3 1 (.slice (some ⟨g, 0, none⟩) zs.length cap) zs.length (zs.map (Value.int .i64)) := ⟨h1, .inr ⟨g, cap, cur, rfl, hb, hg, hn, hm, hs, hx⟩⟩
    refine ⟨_, _, rfl, .inr ⟨g, rfl, hb, (hl g rfl).2, fun j hj => ?_⟩⟩
    rw [Nat.zero_add]
    refine ⟨?_, hrow.frozenAt j⟩
    rw [hrow.cellAt j hj, List.getElem?_eq_getElem (by simp; omega)]
    rfl
theorem own_ints {w : World} {base : Nat} {a : Option Addr} {cap n : Nat} {zs : List Int} (h : w.ownsInts base 3 .i64 (.slice a n cap) zs) (hn : n = zs.length) : IntsAt w.heap.size w a n cap zs := by
  have hl := h.1.lt
  obtain ⟨⟨h1, h2⟩, h3⟩ := h
  rcases h2 with ⟨e, hz⟩ | ⟨g, cap', cur, e, hb, hg, hn', hm, hs, hx⟩
  · simp only [Value.slice.injEq] at e
    obtain ⟨rfl, rfl, rfl⟩ := e
    exact ⟨hz, Nat.le_refl _, Nat.zero_le _, fun x hx => h3 x hx, fun _ => rfl, .inl rfl⟩
  · simp only [Value.slice.injEq] at e
    obtain ⟨rfl, rfl, rfl⟩ := e
    have hrow : w.ownsRow base 3 1 (.slice (some ⟨g, 0, none⟩) zs.length cap) zs.length (zs.map (Value.int .i64)) := ⟨h1, .inr ⟨g, cap, cur, rfl, hb, hg, hn', hm, hs, hx⟩⟩
    refine ⟨rfl, hn', hm, fun x hx => h3 x hx, fun e => by simp at e, .inr ⟨g, 0, rfl, (hl g rfl).2, fun i hi j hj => ?_⟩⟩
    obtain rfl : j = 0 := by omega
    have : 0 + i * 1 + 0 = i := by omega
    rw [this, hrow.cellAt i (by omega)]
    simp [intCells, hi]
/-- A slice of one's own that can be marked; .. that is marked. -/
def OwnS (T : Nat → Prop) (a : Option Addr) (len cap : Nat) (w : World) : Prop := (a = none ∧ len = 0 ∧ cap = 0) ∨ ∃ g, a = some ⟨g, 0, none⟩ ∧ T g ∧ Room w g (len * 1)
def HeldS (k : Int) (a : Option Addr) (len cap : Nat) (w : World) : Prop := (a = none ∧ len = 0 ∧ cap = 0) ∨ ∃ g, a = some ⟨g, 0, none⟩ ∧ g < w.heap.size ∧ ∀ t : Nat, t < len → w.cell? ⟨g, t, none⟩ = some (.int .i64 (k + t))
theorem HeldS.below {k : Int} {a : Option Addr} {len cap : Nat} {w w' : World} (h : HeldS k a len cap w) (hb : Below w.heap.size w w') : HeldS k a len cap w' := by
  rcases h with h | ⟨g, h1, h2, h3⟩
  · exact .inl h
  · exact .inr ⟨g, h1, Nat.lt_of_lt_of_le h2 hb.size, fun t ht => keepc hb h2 (h3 t ht)⟩
theorem own_touch {T : Nat → Prop} {w w' : World} {base : Nat} {v : Value} {zs : List Int} (h : w.ownsInts base 3 .i64 v zs) (ht : Touch T w w') (hT : ∀ g, base ≤ g → g < w.heap.size → v.ownBlock = some g → ¬ T g) : w'.ownsInts base 3 .i64 v zs :=
  own_block h (fun g h1 h2 h3 => ht.block g h2 (hT g h1 h2 h3))
section
variable {H : Type} {enc : TypeId × Value → H} {w : World}
theorem open_int {base : Nat} {spare : Nat → Bool} {held : Bool} {fuel : Nat} {cs : List Value} {x : DataW H × List MemPlace} (h : DataW.trod enc Tryd.prog w base spare held fuel 3 cs = some x) : ∃ nd : Int, cs = intCells nd ∧ fits nd := by
  obtain ⟨v0, e0, _, o0⟩ := DataW.trod_int Tryd.underlying3 h
  exact ⟨v0, e0, o0⟩
theorem open_rows {α : Type} [Inhabited α] {cells : α → List Value} {ok : α → Prop} {c : Nat} {t et : TypeId} (hu : Tryd.prog.underlying t = some (.slice et)) (hc : Tryd.prog.cellsOf et = c)
    (hone : ∀ {fuel : Nat} {cs : List Value} {x : DataW H × List MemPlace}, DataW.trod enc Tryd.prog w 0 (fun _ => true) true fuel et cs = some x → ∃ nd : α, cs = cells nd ∧ ok nd) (hfirst : ∀ nd, ∃ v, (cells nd)[0]? = some v) (hc0 : 0 < c)
    {fuel : Nat} {cs : List Value} {x : DataW H × List MemPlace} (h : DataW.trod enc Tryd.prog w 0 (fun _ => true) true fuel t cs = some x) :
    ∃ s : SL, ∃ ns : List α, cs = [.slice s.a s.len s.cap] ∧ RowsAt cells ok c w.heap.size w s.a s.len s.cap ns := by
  rcases Go.Deep.open_slice hu h with ⟨hcs, _⟩ | ⟨x, len, cap, m, n, D, Pl, hcs, _, hl, hm, hmm, _, hel⟩
  · exact ⟨⟨none, 0, 0⟩, [], hcs, rfl, Nat.le_refl _, Nat.zero_le _, by simp, fun _ => rfl, .inl rfl⟩
  · simp only [if_true] at hmm
    rw [hmm, hc] at hel
    obtain ⟨f, hfc⟩ := Go.Deep.choose_lt (n := len) (p := fun i (nd : α) => ok nd ∧ ∀ j, j < c → w.cell? ((x.add (i * c)).add j) = (cells nd)[j]?) (fun i hi => by
      obtain ⟨cs', h1, h2⟩ := hel i (by omega)
      obtain ⟨nd, rfl, hok⟩ := hone h2
      exact ⟨nd, hok, (World.cells?_some h1).2.2⟩)
    refine ⟨⟨some x, len, cap⟩, (List.range len).map f, hcs, by simp, hl, hm, ?_, fun e => by simp at e, ?_⟩
    · intro y hy
      simp only [List.mem_map, List.mem_range] at hy
      obtain ⟨i, hi, rfl⟩ := hy
      exact (hfc i hi).1
    · by_cases h0 : len = 0
      · exact .inl h0
      · obtain ⟨b, off, spot⟩ := x
        have hc1 := (hfc 0 (by omega)).2 0 hc0
        simp only [Nat.zero_mul] at hc1
        obtain ⟨v, hs0⟩ := hfirst (f 0)
        rw [hs0] at hc1
        have hspot : spot = none := by simpa [Addr.add] using World.cell?_spot hc1
        subst hspot
        have hadd : ∀ k, (⟨b, off, none⟩ : Addr).add k = ⟨b, off + k, none⟩ := fun k => by unfold Addr.add; split <;> simp_all
        refine .inr ⟨b, off, rfl, ?_, ?_⟩
        · exact block_lt_of_cell (by simpa [Addr.add] using hc1)
        · intro i hi j hj
          have hi' : i < len := by simpa using hi
          have := (hfc i hi').2 j hj
          rw [Go.Deep.add_add, hadd, ← Nat.add_assoc] at this
          rw [this]; simp
end
end Go.Proofs.YthdofdglbdfkkaaDoor
