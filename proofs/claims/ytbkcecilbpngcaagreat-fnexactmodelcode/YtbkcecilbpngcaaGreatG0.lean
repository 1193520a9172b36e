/-
  What is of use everywhere: slices of rows in memory, answers that are bools, worlds that become letters, copies, marks, sets.
-/
import Derived.Test.YtbkcecilbpngcaaGreatRows
import Derived.Test.YtbkcecilbpngcaaGreatPaA
import Derived.Test.YtbkcecilbpngcaaGreatMapB
import Derived.WalkKit
import Derived.ProofKit
import Derived.OpenShut
import Derived.WalkSpells
import Derived.WalkLawsBesides
import Derived.Outline
import Derived.BigQuiet
import Derived.Handy
import Derived.LoopTactic
import Derived.Deep.Light
import Derived.Deep.Slices
import Derived.Deep.RegionWith
import Derived.Deep.RegionHeld3
import Derived.Deep.DeepCutAuto
import Derived.Lib.Hide
import Derived.Lib.SmallJoins
import Derived.Deep.MidRow
import Derived.Laws.BytesArg
import Derived.Maps.OwnRows
import Derived.Deep.Onto
namespace Go.Proofs.YtbkcecilbpngcaaGreat
open Go.ChangeShapes Go.WideShapes Go.ChangeAt Go.RowKit Go.Maps Go.ChangeMaps
set_option linter.unusedVariables false
set_option maxRecDepth 100000

def intCells (x : Int) : List Value := [.int .i64 x]
/-- A slice of rows of c cells each lies below B. -/
def RowsAt {α : Type} (cells : α → List Value) (ok : α → Prop) (c B : Nat) (w : World) (a : Option Addr) (len cap : Nat) (ns : List α) : Prop :=
  ns.length = len ∧ len ≤ cap ∧ cap ≤ maxLen ∧ (∀ x ∈ ns, ok x) ∧ (a = none → cap = 0) ∧
  (len = 0 ∨ ∃ b off, a = some ⟨b, off, none⟩ ∧ b < B ∧ ∀ i (h : i < ns.length) j, j < c → w.cell? ⟨b, off + i * c + j, none⟩ = (cells ns[i])[j]?)
abbrev IntsAt := RowsAt intCells fits 1
theorem RowsAt.below {α : Type} {cells : α → List Value} {ok : α → Prop} {c B : Nat} {w w' : World} {a : Option Addr} {len cap : Nat} {ns : List α} (h : RowsAt cells ok c B w a len cap ns) (hb : Below B w w') : RowsAt cells ok c B w' a len cap ns := by
  obtain ⟨h1, h2, h3, h4, h5, h6⟩ := h
  refine ⟨h1, h2, h3, h4, h5, ?_⟩
  rcases h6 with h6 | ⟨b, off, e, hlt, hc⟩
  · exact .inl h6
  · exact .inr ⟨b, off, e, hlt, fun i hi j hj => (hb.cell (p := ⟨b, off + i * c + j, none⟩) hlt).trans (hc i hi j hj)⟩
theorem RowsAt.mono {α : Type} {cells : α → List Value} {ok : α → Prop} {c B B' : Nat} {w : World} {a : Option Addr} {len cap : Nat} {ns : List α} (h : RowsAt cells ok c B w a len cap ns) (hB : B ≤ B') : RowsAt cells ok c B' w a len cap ns := by
  obtain ⟨h1, h2, h3, h4, h5, h6⟩ := h
  refine ⟨h1, h2, h3, h4, h5, ?_⟩
  rcases h6 with h6 | ⟨b, off, e, hlt, hc⟩
  · exact .inl h6
  · exact .inr ⟨b, off, e, Nat.lt_of_lt_of_le hlt hB, hc⟩
/-- The header of a slice. -/
structure SL where
  a : Option Addr
  len : Nat
  cap : Nat
theorem keepc {w w' : World} {g o : Nat} {v : Value} (hb : Below w.heap.size w w') (hg : g < w.heap.size) (h : w.cell? ⟨g, o, none⟩ = some v) : w'.cell? ⟨g, o, none⟩ = some v :=
  (hb.cell (p := ⟨g, o, none⟩) hg).trans h
theorem bd {B : Nat} {a w : World} {n : Nat} (h : Below B a w) : Below B a (w.drewN n) := below_drewN h n
/-- A call answers whether P. -/
def BoolIs (P : Prop) (e : Ending) : Prop := ∃ r : Bool, e = .returned (.bool r) ∧ (r = true ↔ P)
theorem BoolIs.yes {P : Prop} (h : P) : BoolIs P (.returned (.bool true)) := ⟨true, rfl, by simpa using h⟩
theorem BoolIs.no {P : Prop} (h : ¬ P) : BoolIs P (.returned (.bool false)) := ⟨false, rfl, by simpa using h⟩
theorem boolIs_t {P : Prop} {e : Ending} (h : P) (hb : BoolIs P e) : e = .returned (.bool true) := by
  obtain ⟨r, rfl, hr⟩ := hb
  rw [hr.2 h]
theorem boolIs_f {P : Prop} {e : Ending} (h : ¬ P) (hb : BoolIs P e) : e = .returned (.bool false) := by
  obtain ⟨r, rfl, hr⟩ := hb
  cases r
  · rfl
  · exact absurd (hr.1 rfl) h
theorem code_gen {P : Program} {C : Code} {Q : Exit → Act → World → Prop} {A : Act} {W : World} {R : World → Prop} (hR : R W) (h : ∀ wc, R wc → Code.wp P C Q A wc) : Code.wp P C Q A W := h W hR
/-- One number of a slice, as a walk comes to it. -/
theorem int_at {B : Nat} {w : World} {a : Option Addr} {len cap k : Nat} {ps : List Int} (h : IntsAt B w a len cap ps) (hk : k < len) :
    ∃ (p : Int) (b off : Nat), ps.getD k 0 = p ∧ fits p ∧ a = some ⟨b, off, none⟩ ∧ b < B ∧ w.cell? ⟨b, off + k, none⟩ = some (.int .i64 p) := by
  obtain ⟨h1, h2, h3, h4, h5, h6⟩ := h
  have hk' : k < ps.length := by omega
  have hg : ps.getD k 0 = ps[k] := by simp [List.getD, hk']
  rcases h6 with h6 | ⟨b, off, e, hlt, hc⟩
  · omega
  · exact ⟨_, b, off, hg, h4 _ (List.getElem_mem ..), e, hlt, by have := hc k hk' 0 (by decide); simp only [Nat.mul_one, Nat.add_zero] at this; exact this⟩
theorem below_drew {B : Nat} {w w' : World} (h : Below B w w') : Below B w w' := h
/-- A block's cells that can be written. -/
def Room (w : World) (g n : Nat) : Prop := g < w.heap.size ∧ w.there g 0 n
theorem there_below {w w' : World} {b o n : Nat} (h : w.there b o n) (hb : Below w.heap.size w w') (hlt : b < w.heap.size) : w'.there b o n :=
  fun j hj => ⟨by rw [hb.cell (p := ⟨b, o + j, none⟩) hlt]; exact (h j hj).1, by rw [hb.frozen (p := ⟨b, o + j, none⟩) hlt]; exact (h j hj).2⟩
theorem there_part {w : World} {b n o m : Nat} (h : w.there b 0 n) (hm : o + m ≤ n) : w.there b o m := fun j hj => by
  have := h (o + j) (by omega)
  simpa using this
theorem below_setCells {B : Nat} {w w' : World} (h : Below B w w') {b : Nat} (hb : B ≤ b) : ∀ (vs : List Value) (o : Nat) {w'' : World}, Below B w w'' → Below B w (w''.setCells b o vs)
  | [], _, _, k => k
  | v :: vs, o, w'', k => below_setCells h hb vs (o + 1) (k.setCell hb v)
theorem size_setCells (b : Nat) : ∀ (vs : List Value) (o : Nat) (w : World), (w.setCells b o vs).heap.size = w.heap.size
  | [], _, _ => rfl
  | v :: vs, o, w => (size_setCells b vs (o + 1) _).trans (by simp)
theorem intInfo : (Tryz.prog.info? 3).map (fun i => (i.zero, i.size, i.bytes)) = some (some (.int .i64 0), 1, 8) := by kernel_rfl
/-- The first j rows are copied into the block that lies at the end of w. -/
def CopiedR {α : Type} (cells : α → List Value) (c : Nat) (ns : List α) (len : Nat) (w : World) (i : Value) (wr : World) : Prop :=
  ∃ j : Nat, j ≤ len ∧ i = .int .i64 j ∧ w.heap.size < wr.heap.size ∧ wr.there w.heap.size 0 (len * c) ∧
    (∀ t (h : t < ns.length), t < j → ∀ q, q < c → wr.cell? ⟨w.heap.size, t * c + q, none⟩ = (cells ns[t])[q]?) ∧ Below w.heap.size w wr
theorem copiedR_next {α : Type} {cells : α → List Value} {c : Nat} (hlc : ∀ x, (cells x).length = c) {ns : List α} {len j : Nat} {w w1 : World} {nd : α} (hjl : j < len) (hjn : j < ns.length) (hl1 : w.heap.size < w1.heap.size) (hT : w1.there w.heap.size 0 (len * c))
    (hC : ∀ t (h : t < ns.length), t < j → ∀ q, q < c → w1.cell? ⟨w.heap.size, t * c + q, none⟩ = (cells ns[t])[q]?) (hB : Below w.heap.size w w1) (hnd : nd = ns[j]) :
    CopiedR cells c ns len w (.int .i64 ((j : Int) + 1)) (w1.setCells w.heap.size (j * c) (cells nd)) := by
  have hmul : ∀ t, t < len → t * c + c ≤ len * c := fun t ht => by have := Nat.mul_le_mul_right c (show t + 1 ≤ len by omega); rw [Nat.succ_mul] at this; exact this
  refine ⟨j + 1, by omega, by go_num, by rw [size_setCells]; exact hl1, World.there_setCells hT _ _ _, ?_, below_setCells hB (Nat.le_refl _) _ _ hB⟩
  intro t ht htj q hq
  by_cases e : t = j
  · subst e
    have hs := World.cell?_setCells_in w.heap.size (cells nd) (t * c) w1 (fun u hu => by have := hT (t * c + u) (by rw [hlc] at hu; have := hmul t hjl; omega); simpa using this.1) q (by rw [hlc]; exact hq)
    rw [hs, ← hnd]
    exact (List.getElem?_eq_getElem (by rw [hlc]; exact hq)).symm
  · have hs := World.cell?_setCells_out w.heap.size (cells nd) (j * c) w1 ⟨w.heap.size, t * c + q, none⟩ (fun _ _ => .inl (by show t * c + q < j * c; have := Nat.mul_le_mul_right c (show t + 1 ≤ j by omega); rw [Nat.succ_mul] at this; omega))
    exact hs.trans (hC t ht (by omega) q hq)
/-- What a copy hands back. -/
def CopyP {α : Type} (cells : α → List Value) (ok : α → Prop) (c : Nat) (ns : List α) (len : Nat) (w : World) (e : Ending) (w' : World) : Prop :=
  e = .returned (.slice (some ⟨w.heap.size, 0, none⟩) len len) ∧ RowsAt cells ok c w'.heap.size w' (some ⟨w.heap.size, 0, none⟩) len len ns ∧ Room w' w.heap.size (len * c) ∧ Below w.heap.size w w'
theorem there1 {w : World} {b n j : Nat} (h : w.there b 0 (n * 1)) (hj : j < n) : (∃ v, w.cell? ⟨b, j, none⟩ = some v) ∧ w.frozen? ⟨b, j, none⟩ = false := by
  have := h j (by omega)
  rw [Nat.zero_add] at this
  exact ⟨Option.isSome_iff_exists.1 this.1, this.2⟩
set_option maxHeartbeats 4000000 in
theorem c_toIntS {B : Nat} {a : Option Addr} {len cap : Nat} {ns : List Int} (w : World) (hBw : B ≤ w.heap.size) (h : IntsAt B w a len cap ns) (hlen : len ≤ 1048576) :
    Calls Tryz.prog 30 #[.slice a len cap] w (CopyP intCells fits 1 ns len w) := by
  have HN := Go.Lib.hid h
  have hnl : ns.length = len := h.1
  have HNL := Go.Lib.hid hnl
  clear h hnl
  obtain ⟨i0, hi0, hz0, hz1, hz2⟩ := info_parts intInfo
  obtain ⟨w0, hrun, hown, hgrow⟩ := run_make_full (P := Tryz.prog) w w.heap.size 24 3 i0 _ 1 Tryz.underlying24 hi0 hz0 hz1 .i64 .i64 len (by rw [hz2]; omega) (by unfold maxLen; omega) (Nat.le_refl _)
  have hlt0 : w.heap.size < w0.heap.size := by
    rcases hown.2 with ⟨h', _⟩ | ⟨g', cap', cur, h', _, hg, _⟩
    · simp at h'
    · simp only [Value.slice.injEq, Option.some.injEq, Addr.mk.injEq, and_true, true_and] at h'
      obtain ⟨rfl, rfl⟩ := h'
      rcases Nat.lt_or_ge w.heap.size w0.heap.size with h | h
      · exact h
      · rw [Array.getElem?_eq_none h] at hg; cases hg
  have HT0 := Go.Lib.hid (show w0.there w.heap.size 0 (len * 1) from fun j hj => ⟨by
      rw [Nat.zero_add, hown.cellAt j (by omega)]
      have hl := hown.1
      rw [List.getElem?_eq_getElem (by omega)]; rfl, by rw [Nat.zero_add]; exact hown.frozenAt j⟩)
  have HB0 := Go.Lib.hid ((Below.refl w.heap.size w).grown hgrow (Nat.le_refl _) (by simp))
  clear hi0 hz0 hz1 hz2 hown hgrow
  go_enter Tryz.func30, Tryz.ntmps30
  go_wp2
  clear hrun
  go_loopw [4] (fun i wr => CopiedR intCells 1 ns len w i wr) (fun i _ => len - (intOf i).toNat)
  case atStart => exact ⟨0, by omega, rfl, hlt0, HT0.out, fun t _ h => by omega, HB0.out⟩
  case round =>
    obtain ⟨j, hj, rfl, hlt, hth, hcp, hBr⟩ := hrel
    have HTH := Go.Lib.hid hth
    have HCP := Go.Lib.hid hcp
    have HBr := Go.Lib.hid hBr
    clear hth hcp hBr HT0 HB0 hlt0
    by_cases hjl : j < len
    · have hki : (j : Int) < len := by omega
      have hjn : j < ns.length := by have := HNL.out; omega
      obtain ⟨p, b, off, hp, -, rfl, hbB, c0⟩ := int_at (HN.out.below (HBr.out.mono hBw)) hjl
      have HND := Go.Lib.hid (show p = ns[j] by rw [← hp]; simp [List.getD, hjn])
      obtain ⟨⟨v0, d0⟩, f0⟩ := there1 HTH.out hjl
      clear hp
      have HQ := Go.Lib.hid (copiedR_next (cells := intCells) (c := 1) (fun _ => rfl) hjl hjn hlt HTH.out HCP.out HBr.out HND.out)
      go_wp2
      go_roundw
      case rel => exact (by simpa [intCells, World.setCells] using HQ.out)
      case measure => simp [intOf]; omega
    · have hki : ¬ (j : Int) < len := by omega
      obtain rfl : j = len := by omega
      go_wp2
      go_ret
      obtain ⟨h1, -, -, h4, -, -⟩ := HN.out
      exact ⟨rfl, ⟨h1, Nat.le_refl _, by unfold maxLen; omega, h4, fun e => by simp at e, .inr ⟨w.heap.size, 0, rfl, hlt, fun i hi q hq => by rw [Nat.zero_add]; exact HCP.out i hi (by omega) q hq⟩⟩, ⟨hlt, HTH.out⟩, HBr.out⟩
theorem cell_of_block {w : World} {g i : Nat} {cs : Array Value} {t : TypeId} (h : w.heap[g]? = some (.cells cs t (0, 0))) {v : Value} (hv : cs[i]? = some v) : w.cell? ⟨g, i, none⟩ = some v := (cell_of_row _ _ i cs t (0, 0) h).trans hv
theorem free_of_block {w : World} {g i : Nat} {cs : Array Value} {t : TypeId} (h : w.heap[g]? = some (.cells cs t (0, 0))) : w.frozen? ⟨g, i, none⟩ = false := by simp [World.frozen?, h]
def slOf (g len : Nat) : SL := ⟨some ⟨g, 0, none⟩, len, len⟩
theorem wpList_set_insert {ops : Array Oper} {rest : List Oper} {o : Oper} {a : Act} {Q : Exit → Act → World → Prop} (w : World)
    (hg : o.guard = none) (m x v : Operand) (t : TypeId) (hop : o.op = Op.insert t m x v) (k : TypeId) (K : Keyed Tryz.prog k) (ht : Tryz.prog.underlying t = some (.map k 4)) (b n : Nat) (S : Lit → Prop)
    (hm : a.eval m = .map (some b)) (hs : SetMap k b n S w) (hn : n < maxLen) (key : Value) (kl : Lit) (hx : a.eval x = key) (hv : a.eval v = .bool true) (hkey : keyOf Tryz.prog k key = some kl)
    (hK : ∀ w', SetMap k b (n + 1) (fun z => z = kl ∨ S z) w' → w.grownBy w' (some b) → wpList Tryz.prog ops Q rest (a.put o.dst undef) w') : wpList Tryz.prog ops Q (o :: rest) a w := by
  refine wpList_plain hg fun K' hK' => ?_
  obtain ⟨w', hrun, r1, r2⟩ := hs.store K ht hn hkey
  unfold Oper.wp
  simp [execOp, hop, hm, hx, hv, hrun, Result.andThen]
  exact hK' _ _ (hK w' r1 r2)
theorem fits_nat {j : Nat} (h : j ≤ 9223372036854775807) : (Lit.int .i64 (j : Int)).wf = true := WalkArith.wf_i64 (by omega)
theorem own_block {w w' : World} {base : Nat} {v : Value} {zs : List Int} (h : w.ownsInts base 3 .i64 v zs) (hb : ∀ g, base ≤ g → g < w.heap.size → v.ownBlock = some g → w'.heap[g]? = w.heap[g]?) : w'.ownsInts base 3 .i64 v zs := by
  have hl := h.1.lt
  obtain ⟨⟨h1, h2⟩, h3⟩ := h
  refine ⟨⟨h1, ?_⟩, h3⟩
  rcases h2 with h2 | ⟨g, cap, cur, rfl, hbs, hg, h4⟩
  · exact .inl h2
  · exact .inr ⟨g, cap, cur, rfl, hbs, (hb g hbs (hl g rfl).2 rfl).trans hg, h4⟩
theorem ownI_below {w w' : World} {base : Nat} {v : Value} {zs : List Int} (h : w.ownsInts base 3 .i64 v zs) (hb : Below w.heap.size w w') : w'.ownsInts base 3 .i64 v zs := own_block h (fun g _ hl _ => hb.block g hl)
theorem own_grow {w wb w1 : World} {o : Obj} {v : Value} {zs : List Int} (hB : Below w.heap.size w wb) (ho : wb.ownsInts w.heap.size 3 .i64 v zs) (hg : (wb.alloc o).grownBy w1 v.ownBlock) : Below w.heap.size w w1 :=
  (hB.alloc hB.size o).grown hg (Nat.le_trans hB.size (Nat.le_of_lt (alloc_ltS _ _))) (fun j hj => (ho.1.lt j hj).1)
theorem Room.below {g n : Nat} {w w' : World} (h : Room w g n) (hb : Below w.heap.size w w') : Room w' g n := ⟨Nat.lt_of_lt_of_le h.1 hb.size, there_below h.2 hb h.1⟩
theorem Room.set {g n : Nat} {w : World} (h : Room w g n) {b : Nat} (i : Nat) (v : Value) : Room (w.setCell ⟨b, i, none⟩ v) g n :=
  ⟨by simpa using h.1, (World.there_setCells h.2 b i [v])⟩
/-- Of what was there the blocks of T alone may have turned. -/
structure Touch (T : Nat → Prop) (w w' : World) : Prop where
  os : w'.os = w.os
  tape : w'.tape = w.tape
  output : w'.output = w.output
  size : w.heap.size ≤ w'.heap.size
  block : ∀ k, k < w.heap.size → ¬ T k → w'.heap[k]? = w.heap[k]?
  room : ∀ g n, Room w g n → Room w' g n
theorem Touch.refl (T : Nat → Prop) (w : World) : Touch T w w := ⟨rfl, rfl, rfl, Nat.le_refl _, fun _ _ _ => rfl, fun _ _ h => h⟩
theorem Touch.below {T : Nat → Prop} {w wb w' : World} (h : Touch T w wb) (hb : Below wb.heap.size wb w') : Touch T w w' :=
  ⟨hb.os.trans h.os, hb.tape.trans h.tape, hb.output.trans h.output, Nat.le_trans h.size hb.size, fun k hk hg => (hb.block k (Nat.lt_of_lt_of_le hk h.size)).trans (h.block k hk hg), fun g n hr => (h.room g n hr).below hb⟩
theorem Touch.trans {T : Nat → Prop} {w wb w' : World} (h : Touch T w wb) (k : Touch T wb w') : Touch T w w' :=
  ⟨k.os.trans h.os, k.tape.trans h.tape, k.output.trans h.output, Nat.le_trans h.size k.size, fun i hi hg => (k.block i (Nat.lt_of_lt_of_le hi h.size) hg).trans (h.block i hi hg), fun g n hr => k.room g n (h.room g n hr)⟩
theorem Touch.set {T : Nat → Prop} {g : Nat} (hT : T g) {w wb : World} (h : Touch T w wb) (i : Nat) (v : Value) : Touch T w (wb.setCell ⟨g, i, none⟩ v) :=
  ⟨h.os, h.tape, h.output, by simpa using h.size, fun k hk hg => (heap_setCell_other _ _ _ _ (fun e => hg (by have e' : k = g := e; rw [e']; exact hT))).trans (h.block k hk hg), fun g' n hr => (h.room g' n hr).set _ _⟩
/-- What lies below all blocks of T is as it was. -/
theorem Touch.belowAt {T : Nat → Prop} {B : Nat} {w w' : World} (h : Touch T w w') (hB : B ≤ w.heap.size) (hT : ∀ k, T k → B ≤ k) : Below B w w' :=
  ⟨h.os, h.tape, h.output, h.size, fun k hk => h.block k (Nat.lt_of_lt_of_le hk hB) (fun ht => by have := hT k ht; omega)⟩
theorem room_at {w : World} {g n j : Nat} (h : Room w g n) (hj : j < n) : (∃ v, w.cell? ⟨g, j, none⟩ = some v) ∧ w.frozen? ⟨g, j, none⟩ = false := by
  have := h.2 j hj
  rw [Nat.zero_add] at this
  exact ⟨Option.isSome_iff_exists.1 this.1, this.2⟩
theorem cv1 (wr : World) (x : Int) : (convert 126 9 (.slice (some ⟨wr.heap.size, 0, none⟩) 1 1)).run Tryz.prog (wr.alloc (.cells #[.int .u8 x] 5)) = .ok (.string (strOfNums [x])) (wr.alloc (.cells #[.int .u8 x] 5)) := by
  refine run_convert_bytes_arg _ 126 5 Tryz.underlying126 Tryz.underlying5 wr.heap.size 0 1 1 [x] rfl (fun i hi => ?_) 9 Tryz.underlying9
  obtain rfl : i = 0 := by omega
  exact World.cell?_alloc_new _ _ _ _
theorem digits_bound {n : Int} {m : Nat} (h : n * 10 ^ m ≤ 9223372036854775807) (hn : 0 < n) : m ≤ 18 := by
  rcases Nat.lt_or_ge 18 m with h1 | h1
  · exfalso
    obtain ⟨d, rfl⟩ : ∃ d, m = 19 + d := ⟨m - 19, by omega⟩
    have h2 : (1 : Int) ≤ 10 ^ d := Int.pow_pos (by decide)
    have h3 : (10 : Int) ^ (19 + d) = 10000000000000000000 * 10 ^ d := by rw [Int.pow_add]; rfl
    rw [h3] at h
    have h4 : n * (10000000000000000000 * 10 ^ d) ≥ 1 * (10000000000000000000 * 1) := Int.mul_le_mul (by omega) (by omega) (by decide) (by omega)
    omega
  · exact h1
theorem digits_next {n : Int} {m : Nat} (h : n * 10 ^ m ≤ 9223372036854775807) (hn : 0 < n) : n / 10 * 10 ^ (m + 1) ≤ 9223372036854775807 := by
  have h1 : n / 10 * 10 ≤ n := by omega
  have h2 : (0 : Int) ≤ 10 ^ m := Int.le_of_lt (Int.pow_pos (by decide))
  have h3 : n / 10 * 10 ^ (m + 1) = n / 10 * 10 * 10 ^ m := by rw [Int.pow_succ, Int.mul_assoc, Int.mul_comm (10 ^ m) 10]
  rw [h3]
  exact Int.le_trans (Int.mul_le_mul_of_nonneg_right h1 h2) h
set_option maxHeartbeats 4000000 in
theorem c_markText (k : Int) (hk9 : k ≤ 9223372036854775807) (w : World) : Calls Tryz.prog 84 #[.int .i64 k] w fun e w' => ∃ s, e = .returned (.string s) ∧ Below w.heap.size w w' := by
  by_cases hk : k ≤ 0
  · go_enter Tryz.func84, Tryz.ntmps84
    go_wp2_with fail
    go_ret
    exact ⟨_, rfl, Below.refl _ _⟩
  · go_enter Tryz.func84, Tryz.ntmps84
    go_wp2_with fail
    go_loopw [0, 3] (fun kk s wr => ∃ (n : Int) (st : ByteArray), 0 ≤ n ∧ n ≤ 9223372036854775807 ∧ kk = .int .i64 n ∧ s = .string st ∧ (0 < n → n * 10 ^ st.size ≤ 9223372036854775807) ∧ st.size ≤ 19 ∧ Below w.heap.size w wr) (fun kk _ _ => (intOf kk).toNat)
    case atStart => exact ⟨k, ByteArray.empty, by omega, hk9, rfl, rfl, fun _ => by show k * 10 ^ 0 ≤ _; omega, by decide, Below.refl _ _⟩
    case round =>
      obtain ⟨n, st, hn, hn9, rfl, rfl, hp, hs19, hB⟩ := hrel
      have HB := Go.Lib.hid hB
      have HP := Go.Lib.hid hp
      clear hB hp
      have hss : ∀ x : Int, (strOfNums [x]).size = 1 := fun x => rfl
      have hm19 : st.size ≤ 9223372036854775807 := by omega
      by_cases hz : 0 < n
      · have hcv := cv1 wr
        have hs18 := digits_bound (HP.out hz) hz
        have hm18 : 1 + st.size ≤ maxLen := by unfold maxLen; omega
        go_wp2_with fail
        go_roundw
        case rel => exact ⟨_, _, by omega, by omega, rfl, rfl, fun _ => by rw [ByteArray.size_append, hss, Nat.add_comm]; exact digits_next (HP.out hz) hz, by rw [ByteArray.size_append, hss]; omega, HB.out.trans (Below.mono (show Below wr.heap.size wr _ by go_grown) HB.out.size)⟩
        case measure => simp [intOf]; omega
      · go_wp2_with fail
        go_ret
        exact ⟨⟨_, rfl⟩, HB.out⟩
set_option maxHeartbeats 4000000 in
theorem c_markIntS {T : Nat → Prop} {g len cap : Nat} (hT : T g) (k : Int) (hk0 : 0 ≤ k) (hk1 : k ≤ 1099511627776) (hlen : len ≤ 1048576) (w : World) (h : Room w g (len * 1)) :
    Calls Tryz.prog 15 #[.slice (some ⟨g, 0, none⟩) len cap, .int .i64 k] w fun e w' => e = .returned (.int .i64 (k + len)) ∧ Touch T w w' ∧ g < w'.heap.size ∧ ∀ t : Nat, t < len → w'.cell? ⟨g, t, none⟩ = some (.int .i64 (k + t)) := by
  have HR := Go.Lib.hid h
  clear h
  go_enter Tryz.func15, Tryz.ntmps15
  go_wp2_with fail
  go_loopw [1, 5] (fun kk i wr => ∃ j : Nat, j ≤ len ∧ i = .int .i64 j ∧ kk = .int .i64 (k + j) ∧ Touch T w wr ∧ Room wr g (len * 1) ∧ ∀ t : Nat, t < j → wr.cell? ⟨g, t, none⟩ = some (.int .i64 (k + t))) (fun _ i _ => len - (intOf i).toNat)
  case atStart => exact ⟨0, by omega, rfl, by go_num, Touch.refl _ _, HR.out, fun t h => by omega⟩
  case round =>
    obtain ⟨j, hj, rfl, rfl, ht, hr, hc⟩ := hrel
    have HT0 := Go.Lib.hid ht
    have HR0 := Go.Lib.hid hr
    have HC := Go.Lib.hid hc
    clear ht hr hc HR
    by_cases hjl : j < len
    · have hji : (j : Int) < len := by omega
      have hw0 : wrap64 (k + (j : Int) + 1) = k + (j : Int) + 1 := IntWalk.wrap64_in _ (by omega)
      obtain ⟨⟨v0, d0⟩, f0⟩ := room_at HR0.out (show j < len * 1 by omega)
      have HC1 := Go.Lib.hid (show ∀ t : Nat, t < j + 1 → (wr.setCell ⟨g, j, none⟩ (.int .i64 (k + j))).cell? ⟨g, t, none⟩ = some (.int .i64 (k + t)) from fun t ht => by
        by_cases e : t = j
        · subst e; exact World.cell?_setCell_same _ _ _ d0
        · exact (World.cell?_setCell_other _ _ _ _ (by simp <;> omega)).trans (HC.out t (by omega)))
      go_wp2_with fail
      go_roundw
      case rel => exact ⟨j + 1, by omega, by go_num, by go_num, Touch.set hT HT0.out _ _, HR0.out.set _ _, HC1.out⟩
      case measure => simp [intOf] <;> omega
    · have hji : ¬ (j : Int) < len := by omega
      obtain rfl : j = len := by omega
      go_wp2_with fail
      go_ret
      exact ⟨rfl, HT0.out, HR0.out.1, HC.out⟩
set_option maxHeartbeats 4000000 in
theorem c_heldIntS {g len cap : Nat} (k : Int) (hk0 : 0 ≤ k) (hk1 : k ≤ 1099511627776) (hlen : len ≤ 1048576) (w : World) (h : ∀ t : Nat, t < len → w.cell? ⟨g, t, none⟩ = some (.int .i64 (k + t))) :
    Calls Tryz.prog 16 #[.slice (some ⟨g, 0, none⟩) len cap, .int .i64 k] w fun e w' => e = .returned (.int .i64 (k + len)) ∧ w' = w := by
  have HR := Go.Lib.hid h
  clear h
  go_enter Tryz.func16, Tryz.ntmps16
  go_wp2_with fail
  go_loopw [1, 5] (fun kk i wr => ∃ j : Nat, j ≤ len ∧ i = .int .i64 j ∧ kk = .int .i64 (k + j) ∧ wr = w) (fun _ i _ => len - (intOf i).toNat)
  case atStart => exact ⟨0, by omega, rfl, by go_num, rfl⟩
  case round =>
    obtain ⟨j, hj, rfl, rfl, rfl⟩ := hrel
    by_cases hjl : j < len
    · have hji : (j : Int) < len := by omega
      have hw0 : wrap64 (k + (j : Int) + 1) = k + (j : Int) + 1 := IntWalk.wrap64_in _ (by omega)
      have d0 := HR.out j hjl
      go_wp2_with fail
      go_roundw
      case rel => exact ⟨j + 1, by omega, by go_num, by go_num, by first | rfl | trivial⟩
      case measure => simp [intOf] <;> omega
    · have hji : ¬ (j : Int) < len := by omega
      obtain rfl : j = len := by omega
      go_wp2_with fail
      go_ret
      exact ⟨rfl, by trivial⟩
theorem c_markIntS_nil (k : Int) (w : World) : Calls Tryz.prog 15 #[.slice none 0 0, .int .i64 k] w fun e w' => e = .returned (.int .i64 k) ∧ w' = w := by
  go_enter Tryz.func15, Tryz.ntmps15
  go_wp2_with fail
  go_loopw [1, 5] (fun kk i wr => i = .int .i64 0 ∧ kk = .int .i64 k ∧ wr = w) (fun _ _ _ => 0)
  case atStart => exact ⟨rfl, rfl, rfl⟩
  case round =>
    obtain ⟨rfl, rfl, rfl⟩ := hrel
    go_wp2_with fail
    go_ret
    exact ⟨rfl, by first | rfl | trivial⟩
theorem c_heldIntS_nil (k : Int) (w : World) : Calls Tryz.prog 16 #[.slice none 0 0, .int .i64 k] w fun e w' => e = .returned (.int .i64 k) ∧ w' = w := by
  go_enter Tryz.func16, Tryz.ntmps16
  go_wp2_with fail
  go_loopw [1, 5] (fun kk i wr => i = .int .i64 0 ∧ kk = .int .i64 k ∧ wr = w) (fun _ _ _ => 0)
  case atStart => exact ⟨rfl, rfl, rfl⟩
  case round =>
    obtain ⟨rfl, rfl, rfl⟩ := hrel
    go_wp2_with fail
    go_ret
    exact ⟨rfl, by first | rfl | trivial⟩
/-- A row of one's own, as a slice of numbers. -/
theorem own_form {w : World} {base : Nat} {v : Value} {zs : List Int} (h : w.ownsInts base 3 .i64 v zs) :
    ∃ a cap, v = .slice a zs.length cap ∧ ((a = none ∧ zs.length = 0 ∧ cap = 0) ∨ ∃ g, a = some ⟨g, 0, none⟩ ∧ base ≤ g ∧ Room w g (zs.length * 1)) := by
  have hl := h.1.lt
  obtain ⟨⟨h1, h2⟩, h3⟩ := h
  rcases h2 with ⟨rfl, hz⟩ | ⟨g, cap, cur, rfl, hb, hg, hn, hm, hs, hx⟩
  · exact ⟨none, 0, by rw [hz], .inl ⟨rfl, hz, rfl⟩⟩
  · have hrow : w.ownsRow base 3 1 (.slice (some ⟨g, 0, none⟩) zs.length cap) zs.length (zs.map (Value.int .i64)) := ⟨h1, .inr ⟨g, cap, cur, rfl, hb, hg, hn, hm, hs, hx⟩⟩
    refine ⟨_, _, rfl, .inr ⟨g, rfl, hb, (hl g rfl).2, fun j hj => ?_⟩⟩
    rw [Nat.zero_add]
    refine ⟨?_, hrow.frozenAt j⟩
    rw [hrow.cellAt j hj, List.getElem?_eq_getElem (by simp; omega)]
    rfl
theorem own_ints {w : World} {base : Nat} {a : Option Addr} {cap n : Nat} {zs : List Int} (h : w.ownsInts base 3 .i64 (.slice a n cap) zs) (hn : n = zs.length) : IntsAt w.heap.size w a n cap zs := by
  have hl := h.1.lt
  obtain ⟨⟨h1, h2⟩, h3⟩ := h
  rcases h2 with ⟨e, hz⟩ | ⟨g, cap', cur, e, hb, hg, hn', hm, hs, hx⟩
  · simp only [Value.slice.injEq] at e
    obtain ⟨rfl, rfl, rfl⟩ := e
    exact ⟨hz, Nat.le_refl _, Nat.zero_le _, fun x hx => h3 x hx, fun _ => rfl, .inl rfl⟩
  · simp only [Value.slice.injEq] at e
    obtain ⟨rfl, rfl, rfl⟩ := e
    have hrow : w.ownsRow base 3 1 (.slice (some ⟨g, 0, none⟩) zs.length cap) zs.length (zs.map (Value.int .i64)) := ⟨h1, .inr ⟨g, cap, cur, rfl, hb, hg, hn', hm, hs, hx⟩⟩
    refine ⟨rfl, hn', hm, fun x hx => h3 x hx, fun e => by simp at e, .inr ⟨g, 0, rfl, (hl g rfl).2, fun i hi j hj => ?_⟩⟩
    obtain rfl : j = 0 := by omega
    have : 0 + i * 1 + 0 = i := by omega
    rw [this, hrow.cellAt i (by omega)]
    simp [intCells, hi]
/-- A slice of one's own that can be marked; .. that is marked. -/
def OwnS (T : Nat → Prop) (a : Option Addr) (len cap : Nat) (w : World) : Prop := (a = none ∧ len = 0 ∧ cap = 0) ∨ ∃ g, a = some ⟨g, 0, none⟩ ∧ T g ∧ Room w g (len * 1)
def HeldS (k : Int) (a : Option Addr) (len cap : Nat) (w : World) : Prop := (a = none ∧ len = 0 ∧ cap = 0) ∨ ∃ g, a = some ⟨g, 0, none⟩ ∧ g < w.heap.size ∧ ∀ t : Nat, t < len → w.cell? ⟨g, t, none⟩ = some (.int .i64 (k + t))
theorem HeldS.below {k : Int} {a : Option Addr} {len cap : Nat} {w w' : World} (h : HeldS k a len cap w) (hb : Below w.heap.size w w') : HeldS k a len cap w' := by
  rcases h with h | ⟨g, h1, h2, h3⟩
  · exact .inl h
  · exact .inr ⟨g, h1, Nat.lt_of_lt_of_le h2 hb.size, fun t ht => keepc hb h2 (h3 t ht)⟩
theorem own_touch {T : Nat → Prop} {w w' : World} {base : Nat} {v : Value} {zs : List Int} (h : w.ownsInts base 3 .i64 v zs) (ht : Touch T w w') (hT : ∀ g, base ≤ g → g < w.heap.size → v.ownBlock = some g → ¬ T g) : w'.ownsInts base 3 .i64 v zs :=
  own_block h (fun g h1 h2 h3 => ht.block g h2 (hT g h1 h2 h3))
section
variable {H : Type} {enc : TypeId × Value → H} {w : World}
theorem open_int {base : Nat} {spare : Nat → Bool} {held : Bool} {fuel : Nat} {cs : List Value} {x : DataW H × List MemPlace} (h : DataW.trod enc Tryz.prog w base spare held fuel 3 cs = some x) : ∃ nd : Int, cs = intCells nd ∧ fits nd := by
  obtain ⟨v0, e0, _, o0⟩ := DataW.trod_int Tryz.underlying3 h
  exact ⟨v0, e0, o0⟩
theorem open_rows {α : Type} [Inhabited α] {cells : α → List Value} {ok : α → Prop} {c : Nat} {t et : TypeId} (hu : Tryz.prog.underlying t = some (.slice et)) (hc : Tryz.prog.cellsOf et = c)
    (hone : ∀ {fuel : Nat} {cs : List Value} {x : DataW H × List MemPlace}, DataW.trod enc Tryz.prog w 0 (fun _ => true) true fuel et cs = some x → ∃ nd : α, cs = cells nd ∧ ok nd) (hfirst : ∀ nd, ∃ v, (cells nd)[0]? = some v) (hc0 : 0 < c)
    {fuel : Nat} {cs : List Value} {x : DataW H × List MemPlace} (h : DataW.trod enc Tryz.prog w 0 (fun _ => true) true fuel t cs = some x) :
    ∃ s : SL, ∃ ns : List α, cs = [.slice s.a s.len s.cap] ∧ RowsAt cells ok c w.heap.size w s.a s.len s.cap ns := by
  rcases Go.Deep.open_slice hu h with ⟨hcs, _⟩ | ⟨x, len, cap, m, n, D, Pl, hcs, _, hl, hm, hmm, _, hel⟩
  · exact ⟨⟨none, 0, 0⟩, [], hcs, rfl, Nat.le_refl _, Nat.zero_le _, by simp, fun _ => rfl, .inl rfl⟩
  · simp only [if_true] at hmm
    rw [hmm, hc] at hel
    obtain ⟨f, hfc⟩ := Go.Deep.choose_lt (n := len) (p := fun i (nd : α) => ok nd ∧ ∀ j, j < c → w.cell? ((x.add (i * c)).add j) = (cells nd)[j]?) (fun i hi => by
      obtain ⟨cs', h1, h2⟩ := hel i (by omega)
      obtain ⟨nd, rfl, hok⟩ := hone h2
      exact ⟨nd, hok, (World.cells?_some h1).2.2⟩)
    refine ⟨⟨some x, len, cap⟩, (List.range len).map f, hcs, by simp, hl, hm, ?_, fun e => by simp at e, ?_⟩
    · intro y hy
      simp only [List.mem_map, List.mem_range] at hy
      obtain ⟨i, hi, rfl⟩ := hy
      exact (hfc i hi).1
    · by_cases h0 : len = 0
      · exact .inl h0
      · obtain ⟨b, off, spot⟩ := x
        have hc1 := (hfc 0 (by omega)).2 0 hc0
        simp only [Nat.zero_mul] at hc1
        obtain ⟨v, hs0⟩ := hfirst (f 0)
        rw [hs0] at hc1
        have hspot : spot = none := by simpa [Addr.add] using World.cell?_spot hc1
        subst hspot
        have hadd : ∀ k, (⟨b, off, none⟩ : Addr).add k = ⟨b, off + k, none⟩ := fun k => by unfold Addr.add; split <;> simp_all
        refine .inr ⟨b, off, rfl, ?_, ?_⟩
        · exact block_lt_of_cell (by simpa [Addr.add] using hc1)
        · intro i hi j hj
          have hi' : i < len := by simpa using hi
          have := (hfc i hi').2 j hj
          rw [Go.Deep.add_add, hadd, ← Nat.add_assoc] at this
          rw [this]; simp
end
end Go.Proofs.YtbkcecilbpngcaaGreat
