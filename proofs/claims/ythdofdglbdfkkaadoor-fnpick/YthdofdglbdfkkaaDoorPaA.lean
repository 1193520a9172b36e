/-
  Parts: Math, Base, SortS, SortI, KindN, NodeD, Take.
-/
import Derived.WalkKit
import Derived.Laws.BitsLemmas
import Derived.Laws.BitsAllLaws
import Derived.Test.YthdofdglbdfkkaaDoorRows
import Derived.ProofKit
import Derived.OpenShut
import Derived.WalkSpells
import Derived.WalkLawsBesides
import Derived.Outline
import Derived.BigQuiet
import Derived.Laws.Rows
import Derived.RegionTactic
import Derived.Deep.RegionWith
import Derived.Handy
import Derived.LoopTactic
import Derived.Deep.Light
import Derived.Deep.Slices
import Derived.Lib.SmallJoins
import Derived.Deep.RegionHeld3
/-! Plain arithmetic of words (no Go in sight): powers of 2, words, signs, bits; what the loops over bits add up to. -/
namespace Go.Proofs.YthdofdglbdfkkaaDoor
open Go.RowKit

theorem p2_pos (k : Nat) : (0 : Int) < 2 ^ k := Int.pow_pos (by decide)
theorem p2_cast (k : Nat) : ((2 ^ k : Nat) : Int) = 2 ^ k := by simp
theorem p2_mono {i j : Nat} (h : i ≤ j) : (2 : Int) ^ i ≤ 2 ^ j := by
  rw [← p2_cast, ← p2_cast]; exact Int.ofNat_le.mpr (Nat.pow_le_pow_right (by decide) h)
theorem p2_le {n : Int} (h : n ≤ 16) : (2 : Int) ^ n.toNat ≤ 65536 := by
  have := p2_mono (i := n.toNat) (j := 16) (by omega); simpa using this
theorem p2_ge {n : Int} (h : 1 ≤ n) : (2 : Int) ≤ 2 ^ n.toNat := by
  have := p2_mono (i := 1) (j := n.toNat) (by omega); simpa using this
theorem p2_ge1 (k : Nat) : (1 : Int) ≤ 2 ^ k := by have := p2_pos k; omega
theorem p2_half {n : Int} (h : 1 ≤ n) : (2 : Int) ^ n.toNat = 2 * 2 ^ (n.toNat - 1) := by
  obtain ⟨k, hk⟩ : ∃ k, n.toNat = k + 1 := ⟨n.toNat - 1, by omega⟩
  rw [hk, Int.pow_succ, Nat.add_sub_cancel]; omega
theorem p2_add (i j : Nat) : (2 : Int) ^ (i + j) = 2 ^ i * 2 ^ j := Int.pow_add ..

/-- A word of a width. -/
def WOk (w v : Int) : Prop := 1 ≤ w ∧ w ≤ 16 ∧ 0 ≤ v ∧ v < 2 ^ w.toNat
instance (w v : Int) : Decidable (WOk w v) := by unfold WOk; infer_instance
/-- A word as a number with a sign. -/
def sgn (w v : Int) : Int := if WOk w v then (if 2 ^ (w.toNat - 1) ≤ v then v - 2 ^ w.toNat else v) else 0
/-- A number as a word. -/
def frm (w n : Int) : Int := if 1 ≤ w ∧ w ≤ 16 then n % 2 ^ w.toNat else 0

theorem WOk.lt {w v : Int} (h : WOk w v) : v < 65536 := Int.lt_of_lt_of_le h.2.2.2 (p2_le h.2.1)
theorem frm_ok {w : Int} (n : Int) (h1 : 1 ≤ w) (h2 : w ≤ 16) : WOk w (frm w n) := by
  unfold frm; rw [if_pos ⟨h1, h2⟩]
  exact ⟨h1, h2, Int.emod_nonneg _ (by have := p2_pos w.toNat; omega), Int.emod_lt_of_pos _ (p2_pos _)⟩
theorem frm_eq {w : Int} (n : Int) (h1 : 1 ≤ w) (h2 : w ≤ 16) : frm w n = n % 2 ^ w.toNat := by
  unfold frm; rw [if_pos ⟨h1, h2⟩]
theorem frm_bound (w n : Int) : 0 ≤ frm w n ∧ frm w n < 65536 := by
  by_cases h : 1 ≤ w ∧ w ≤ 16
  · have := frm_ok n h.1 h.2; exact ⟨this.2.2.1, this.lt⟩
  · unfold frm; rw [if_neg h]; omega
theorem sgn_bound (w v : Int) : -65536 < sgn w v ∧ sgn w v < 65536 := by
  unfold sgn
  by_cases h : WOk w v
  · rw [if_pos h]; have := h.lt; have := p2_le h.2.1; have := p2_half h.1; have := p2_pos (w.toNat - 1)
    have := h.2.2.1
    split <;> omega
  · rw [if_neg h]; omega
theorem sgn_eq {w v : Int} (h : WOk w v) : sgn w v = if 2 ^ (w.toNat - 1) ≤ v then v - 2 ^ w.toNat else v := by
  unfold sgn; rw [if_pos h]
theorem sgn_range {w v : Int} (h : WOk w v) : -(2 ^ (w.toNat - 1)) ≤ sgn w v ∧ sgn w v < 2 ^ (w.toNat - 1) := by
  rw [sgn_eq h]; have := p2_half h.1; have := h.2.2.1; have := h.2.2.2
  split <;> omega
theorem frm_sgn {w v : Int} (h : WOk w v) : frm w (sgn w v) = v := by
  rw [frm_eq _ h.1 h.2.1, sgn_eq h]
  split
  · rw [Int.sub_emod_right, Int.emod_eq_of_lt h.2.2.1 h.2.2.2]
  · rw [Int.emod_eq_of_lt h.2.2.1 h.2.2.2]
theorem frm_self {w v : Int} (h : WOk w v) : frm w v = v := by
  rw [frm_eq _ h.1 h.2.1, Int.emod_eq_of_lt h.2.2.1 h.2.2.2]

theorem emod_of_tmod (v p : Int) (hp : 0 < p) : v % p = if v.tmod p < 0 then v.tmod p + p else v.tmod p := by
  have e := @Int.emod_eq_tmod v p
  have h0 := Int.emod_nonneg v (b := p) (by omega)
  have h1 := Int.emod_lt_of_pos v hp
  have h2 : (p.natAbs : Int) = p := by omega
  by_cases hc : 0 ≤ v ∨ p ∣ v
  · rw [if_pos hc] at e
    split <;> omega
  · rw [if_neg hc] at e
    split <;> omega
theorem tmod_bounds (v p : Int) (hp : 0 < p) : -p < v.tmod p ∧ v.tmod p < p := by
  have e := emod_of_tmod v p hp
  have h0 := Int.emod_nonneg v (b := p) (by omega)
  have h1 := Int.emod_lt_of_pos v hp
  have h2 : v % p = 0 → v.tmod p = 0 := fun h => Int.tmod_eq_zero_of_dvd (Int.dvd_of_emod_eq_zero h)
  split at e <;> omega

/-! ### bits of int64 -/
theorem i64_mask (n : Int) (k : Nat) (hk : k ≤ 62) : bits .and .i64 n (2 ^ k - 1) = n % 2 ^ k := by
  have hle : (2 : Nat) ^ k ≤ 2 ^ 62 := Nat.pow_le_pow_right (by decide) hk
  have hp : 0 < (2 : Nat) ^ k := Nat.pow_pos (by decide)
  have hc := p2_cast k
  have e1 : (BitVec.ofInt 64 (2 ^ k - 1)).toNat = 2 ^ k - 1 := by
    rw [BitVec.toNat_ofInt, ← hc]; omega
  have key : (BitVec.ofInt 64 n &&& BitVec.ofInt 64 (2 ^ k - 1)).toNat = (n % ((2 ^ 64 : Nat) : Int)).toNat % 2 ^ k := by
    rw [BitVec.toNat_and, BitVec.toNat_ofInt, e1, Nat.and_two_pow_sub_one_eq_mod]
  show IntKind.i64.wrap ((BitVec.ofInt 64 n &&& BitVec.ofInt 64 (2 ^ k - 1)).toNat : Nat) = n % 2 ^ k
  rw [key, IntKind.wrap_i64]
  have hlt : (n % ((2 ^ 64 : Nat) : Int)).toNat % 2 ^ k < 2 ^ k := Nat.mod_lt _ hp
  have e2 : (((n % ((2 ^ 64 : Nat) : Int)).toNat % 2 ^ k : Nat) : Int) = n % 2 ^ k := by
    rw [Int.natCast_emod, Int.toNat_of_nonneg (Int.emod_nonneg _ (by decide)), hc]
    have hd : (2 : Int) ^ k ∣ ((2 ^ 64 : Nat) : Int) := by
      have : (2 : Nat) ^ k ∣ 2 ^ 64 := Nat.pow_dvd_pow 2 (by omega)
      rw [← hc]; exact Int.natCast_dvd_natCast.mpr this
    exact Int.emod_emod_of_dvd n hd
  rw [e2]
  have h0 := Int.emod_nonneg n (b := 2 ^ k) (by have := p2_pos k; omega)
  have h1 := Int.emod_lt_of_pos n (p2_pos k)
  have h2 : (2 : Int) ^ k ≤ 4611686018427387904 := by have := p2_mono (i := k) (j := 62) hk; simpa using this
  omega
theorem i64_one (n : Int) : bits .and .i64 n 1 = n % 2 := by
  have := i64_mask n 1 (by decide); simpa using this
theorem ofInt64 (a : Int) (h1 : 0 ≤ a) (h2 : a < 4611686018427387904) : (BitVec.ofInt 64 a).toNat = a.toNat := by
  rw [BitVec.toNat_ofInt]; omega
theorem i64_and (a b : Int) (h1 : 0 ≤ a) (h2 : a < 65536) (h3 : 0 ≤ b) (h4 : b < 65536) : bits .and .i64 a b = ((a.toNat &&& b.toNat : Nat) : Int) := by
  show IntKind.i64.wrap ((BitVec.ofInt 64 a &&& BitVec.ofInt 64 b).toNat : Nat) = _
  rw [BitVec.toNat_and, ofInt64 a h1 (by omega), ofInt64 b h3 (by omega), IntKind.wrap_i64]
  have := Nat.and_lt_two_pow (x := a.toNat) (y := b.toNat) (n := 16) (by omega)
  omega
theorem i64_or (a b : Int) (h1 : 0 ≤ a) (h2 : a < 65536) (h3 : 0 ≤ b) (h4 : b < 65536) : bits .or .i64 a b = ((a.toNat ||| b.toNat : Nat) : Int) := by
  show IntKind.i64.wrap ((BitVec.ofInt 64 a ||| BitVec.ofInt 64 b).toNat : Nat) = _
  rw [BitVec.toNat_or, ofInt64 a h1 (by omega), ofInt64 b h3 (by omega), IntKind.wrap_i64]
  have := Nat.or_lt_two_pow (x := a.toNat) (y := b.toNat) (n := 16) (by omega) (by omega)
  omega
theorem i64_xor (a b : Int) (h1 : 0 ≤ a) (h2 : a < 65536) (h3 : 0 ≤ b) (h4 : b < 65536) : bits .xor .i64 a b = ((a.toNat ^^^ b.toNat : Nat) : Int) := by
  show IntKind.i64.wrap ((BitVec.ofInt 64 a ^^^ BitVec.ofInt 64 b).toNat : Nat) = _
  rw [BitVec.toNat_xor, ofInt64 a h1 (by omega), ofInt64 b h3 (by omega), IntKind.wrap_i64]
  have := Nat.xor_lt_two_pow (x := a.toNat) (y := b.toNat) (n := 16) (by omega) (by omega)
  omega
end Go.Proofs.YthdofdglbdfkkaaDoor

/-! What the small functions of words answer, both of the program and of the model: each is called at whatever arguments and answers what plain arithmetic says; it only reads. -/
namespace Go.Proofs.YthdofdglbdfkkaaDoor
open Go.ChangeShapes Go.WideShapes Go.ChangeAt Go.RowKit

theorem ret_bool {a b : Bool} (h : a = b) : Ending.returned (.bool a) = Ending.returned (.bool b) := by rw [h]
theorem ret_int {a b : Int} (h : a = b) : Ending.returned (.int .i64 a) = Ending.returned (.int .i64 b) := by rw [h]
theorem dec_and (p q : Prop) [Decidable p] [Decidable q] : (decide p && decide q) = decide (p ∧ q) := by simp
theorem dec_iff {p q : Prop} [Decidable p] [Decidable q] (h : p ↔ q) : decide p = decide q := decide_eq_decide.mpr h

theorem c_l1In (n lo hi : Int) (w : World) :
    Calls Tryd.prog 66 #[.int .i64 n, .int .i64 lo, .int .i64 hi] w fun e w' => e = .returned (.bool (decide (lo ≤ n) && decide (n ≤ hi))) ∧ w' = w := by
  by_cases h1 : lo ≤ n
  · go_enter Tryd.func66, Tryd.ntmps66
    go_wp2
    go_ret
    exact ⟨by simp [h1], rfl⟩
  · go_enter Tryd.func66, Tryd.ntmps66
    go_wp2
    go_ret
    exact ⟨by simp; omega, rfl⟩

theorem wrap_p2 {n : Int} (h : n ≤ 16) : wrap64 (2 ^ n.toNat) = 2 ^ n.toNat := by
  have := p2_le h; have := p2_pos n.toNat; exact IntWalk.wrap64_in _ (by omega)
theorem wrap_p2m {n : Int} (h : n ≤ 16) : wrap64 (2 ^ n.toNat - 1) = 2 ^ n.toNat - 1 := by
  have := p2_le h; have := p2_pos n.toNat; exact IntWalk.wrap64_in _ (by omega)

theorem c_l1Bit (a i : Int) (h0 : 0 ≤ a) (h1 : 0 ≤ i) (h2 : i ≤ 16) (w : World) :
    Calls Tryd.prog 82 #[.int .i64 a, .int .i64 i] w fun e w' => e = .returned (.int .i64 (a / 2 ^ i.toNat % 2)) ∧ w' = w := by
  go_enter Tryd.func82, Tryd.ntmps82
  go_wp2
  go_ret
  exact ⟨ret_int (Int.tmod_eq_emod_of_nonneg (Int.ediv_nonneg h0 (Int.le_of_lt (p2_pos _)))), rfl⟩
theorem c_l1Yes (b : Bool) (w : World) :
    Calls Tryd.prog 87 #[.bool b] w fun e w' => e = .returned (.int .i64 b.toNat) ∧ w' = w := by
  cases b <;> (go_enter Tryd.func87, Tryd.ntmps87; go_wp2; go_ret; exact ⟨rfl, rfl⟩)
theorem c_wordFlag (b : Bool) (w : World) :
    Calls Tryd.prog 49 #[.bool b] w fun e w' => e = .returned (.int .i64 b.toNat) ∧ w' = w := by
  cases b <;> (go_enter Tryd.func49, Tryd.ntmps49; go_wp2; go_ret; exact ⟨rfl, rfl⟩)
theorem sign_bit {n v : Int} (h : WOk n v) : (v / 2 ^ (n.toNat - 1) % 2 = 1) ↔ 2 ^ (n.toNat - 1) ≤ v := by
  obtain ⟨h1, _, h3, h4⟩ := h
  have hp := p2_pos (n.toNat - 1)
  rw [p2_half h1] at h4
  have hlt : v / 2 ^ (n.toNat - 1) < 2 := by rw [Int.ediv_lt_iff_lt_mul hp]; omega
  have h0 : 0 ≤ v / 2 ^ (n.toNat - 1) := Int.ediv_nonneg h3 (by omega)
  have : 1 ≤ v / 2 ^ (n.toNat - 1) ↔ 1 * 2 ^ (n.toNat - 1) ≤ v := Int.le_ediv_iff_mul_le hp
  omega

end Go.Proofs.YthdofdglbdfkkaaDoor

/-! What the model says of sorts, and the laws' copies of them. -/
namespace Go.Proofs.YthdofdglbdfkkaaDoor
open Go.ChangeShapes Go.WideShapes Go.ChangeAt Go.RowKit
set_option linter.unusedVariables false

/-- A sort. -/
def SOK (i n : Int) : Prop := 0 ≤ i ∧ i ≤ 2 ∧ 1 ≤ n ∧ n ≤ 16
instance (i n : Int) : Decidable (SOK i n) := by unfold SOK; infer_instance
def cellsN (i n : Int) : Int := if SOK i n then 2 ^ i.toNat else 0
def bitsN (i n : Int) : Int := cellsN i n * n
theorem cellsN_bound (i n : Int) : 0 ≤ cellsN i n ∧ cellsN i n ≤ 4 := by
  unfold cellsN; split
  · rename_i h
    have := p2_pos i.toNat
    have := p2_mono (i := i.toNat) (j := 2) (by have := h.1; have := h.2.1; omega)
    have e : (2 : Int) ^ 2 = 4 := by decide
    omega
  · omega

theorem alloc_ltS (w : World) (o : Obj) : w.heap.size < (w.alloc o).heap.size := by show w.heap.size < (w.heap.push _).size; simp
theorem below_boxed {w w1 : World} {o : Obj} (h : Below (w.alloc o).drew.heap.size (w.alloc o).drew w1) : Below w.heap.size w w1 :=
  ((Below.refl _ _).alloc (Nat.le_refl _) _).trans ⟨h.os, h.tape, h.output, h.size, fun k hk => h.block k (Nat.lt_trans hk (alloc_ltS _ _))⟩
theorem heap_alloc2_at (w : World) (A B C : Obj) : (((w.alloc A).alloc B).alloc C).heap[w.heap.size + 1]? = some B := by
  have h : w.heap.size + 1 < ((w.alloc A).alloc B).heap.size := by show w.heap.size + 1 < ((w.heap.push A).push B).size; simp
  exact (heap_alloc_old ((w.alloc A).alloc B) C h).trans (heap_alloc2_new w A B)

end Go.Proofs.YthdofdglbdfkkaaDoor

/-! What the program says of sorts; small laws of worlds that have grown. -/
namespace Go.Proofs.YthdofdglbdfkkaaDoor
open Go.ChangeShapes Go.WideShapes Go.ChangeAt Go.RowKit
set_option linter.unusedVariables false

/-- What lay there reads as before. -/
theorem bcell {W w1 : World} (hb : Below W.heap.size W w1) : (∀ b o, b < W.heap.size → w1.cell? ⟨b, o, none⟩ = W.cell? ⟨b, o, none⟩) ∧ (∀ b o, b < W.heap.size → w1.frozen? ⟨b, o, none⟩ = W.frozen? ⟨b, o, none⟩) :=
  ⟨fun b o h => hb.cell (p := ⟨b, o, none⟩) h, fun b o h => hb.frozen (p := ⟨b, o, none⟩) h⟩
theorem bstep {B : Nat} {w w1 w2 : World} (h : Below B w w1) (hB : B ≤ w.heap.size) (k : Below w1.heap.size w1 w2) : Below B w w2 :=
  h.trans (k.mono (Nat.le_trans hB h.size))

end Go.Proofs.YthdofdglbdfkkaaDoor

/-! What a kind has: parts, numbers, a name; names. -/
namespace Go.Proofs.YthdofdglbdfkkaaDoor
open Go.ChangeShapes Go.WideShapes Go.ChangeAt Go.RowKit
set_option linter.unusedVariables false

/-- How many parts a kind has; -1 of none. -/
def pcN (k : Int) : Int := if 34 ≤ k ∧ k ≤ 36 then 0 else if (1 ≤ k ∧ k ≤ 5) ∨ (30 ≤ k ∧ k ≤ 32) then 1 else if (6 ≤ k ∧ k ≤ 29) ∨ k = 37 then 2 else if k = 33 ∨ k = 38 then 3 else -1
/-- How many numbers. -/
def ncN (k : Int) : Int := if k = 30 then 2 else if k = 34 ∨ k = 31 ∨ k = 32 then 1 else 0
def namedB (k : Int) : Bool := decide (k = 35 ∨ k = 36)
theorem pcN_cases (k : Int) : pcN k = -1 ∨ pcN k = 0 ∨ pcN k = 1 ∨ pcN k = 2 ∨ pcN k = 3 := by unfold pcN; (repeat' split) <;> omega

/-- .. as the program has it: of no kind 0 and false. -/
def pcI (k : Int) : Int := if pcN k < 0 then 0 else pcN k
/-- A small letter, a digit. -/
def lowB (b : Int) : Bool := decide (97 ≤ b ∧ b ≤ 122)
def digB (b : Int) : Bool := decide (48 ≤ b ∧ b ≤ 57)
end Go.Proofs.YthdofdglbdfkkaaDoor

/-! Nodes as data: what a struct of a node, and a slice of such, is in memory; read off an argument's reading. -/
namespace Go.Proofs.YthdofdglbdfkkaaDoor
open Go.ChangeShapes Go.WideShapes Go.ChangeAt Go.RowKit
set_option linter.unusedVariables false
set_option maxRecDepth 100000

/-- A node's fields. -/
structure ND where
  kind : Int
  a : Int
  b : Int
  c : Int
  n : Int
  m : Int
  si : Int
  sw : Int
  name : ByteArray
instance : Inhabited ND := ⟨⟨0, 0, 0, 0, 0, 0, 0, 0, ByteArray.empty⟩⟩
/-- .. as cells, in order. -/
def ND.cells (x : ND) : List Value := [.int .i64 x.kind, .int .i64 x.a, .int .i64 x.b, .int .i64 x.c, .int .i64 x.n, .int .i64 x.m, .int .i64 x.si, .int .i64 x.sw, .string x.name]
/-- Each number fits, and the name is no longer than a string may be. -/
def fits (n : Int) : Prop := (Lit.int .i64 n).wf = true
def ND.ok (x : ND) : Prop := fits x.kind ∧ fits x.a ∧ fits x.b ∧ fits x.c ∧ fits x.n ∧ fits x.m ∧ fits x.si ∧ fits x.sw ∧ x.name.size ≤ maxLen

section
variable {H : Type} {enc : TypeId × Value → H} {w : World} {base : Nat} {spare : Nat → Bool} {held : Bool}
/-- A slice of nodes lies below B: its cells are those of the nodes, in order. -/
def NodesAt (B : Nat) (w : World) (a : Option Addr) (len cap : Nat) (ns : List ND) : Prop :=
  ns.length = len ∧ len ≤ cap ∧ cap ≤ maxLen ∧ (∀ x ∈ ns, x.ok) ∧ (a = none → cap = 0) ∧
  (len = 0 ∨ ∃ b off, a = some ⟨b, off, none⟩ ∧ b < B ∧ ∀ i (h : i < ns.length) j, j < 9 → w.cell? ⟨b, off + i * 9 + j, none⟩ = (ns[i]).cells[j]?)
end
end Go.Proofs.YthdofdglbdfkkaaDoor

/-! A region that draws its order, taken operation by operation: what a guard passes over is taken as it is met. -/
namespace Go.Proofs.YthdofdglbdfkkaaDoor
open Go.RowKit
section
variable {P : Program} {ops : Array Oper} {Q : Exit → Act → World → Prop} {md : Region.Mode} {S : World → Prop}
theorem takeL (i : Nat) (d : Option Tmp) {oi : Oper} {v : Value} {fuel : Nat} {listed : Array Bool} {a : Act} {w : World} (hi : ops[i]? = some oi) (hd : oi.dst = d)
    (hs : Region.noSelect ops = true) (hf : Region.free md ops listed i = true) (hr : (Region.ready md ops listed).contains i = true)
    (hQ : ∀ c a w, Q (.panic c) (a.put d v) w → Q (.panic c) a w) (hw : Region.wanted oi (yielded ops a.tmps) = true)
    (hy : ∀ w, S w → (execOp a.eval oi).run P w = .ok (.value v) w) (hS : S w)
    (h : wpAnyH P md ops Q S fuel (listed.setIfInBounds i true) (a.put d v) w) : wpAnyH P md ops Q S (fuel + 1) listed a w := by
  subst hd
  exact wpAnyH_take hi hs hf hr hQ (Or.inl ⟨hw, hy⟩) hS h
theorem takeU (i : Nat) (d : Option Tmp) {oi : Oper} {fuel : Nat} {listed : Array Bool} {a : Act} {w : World} (hi : ops[i]? = some oi) (hd : oi.dst = d)
    (hs : Region.noSelect ops = true) (hf : Region.free md ops listed i = true) (hr : (Region.ready md ops listed).contains i = true)
    (hQ : ∀ c a w, Q (.panic c) (a.put d undef) w → Q (.panic c) a w) (hw : Region.wanted oi (yielded ops a.tmps) = false) (hS : S w)
    (h : wpAnyH P md ops Q S fuel (listed.setIfInBounds i true) (a.put d undef) w) : wpAnyH P md ops Q S (fuel + 1) listed a w := by
  subst hd
  exact wpAnyH_take hi hs hf hr hQ (Or.inr ⟨hw, rfl⟩) hS h
/-- takeL, takeU with what is always paid alike. -/
theorem tL (i : Nat) (d : Option Tmp) {oi : Oper} {v : Value} {fuel : Nat} {listed : Array Bool} {a a' : Act} {w : World}
    (h : wpAnyH P md ops Q S fuel (listed.setIfInBounds i true) a' w) (hi : ops[i]? = some oi := by rfl) (hd : oi.dst = d := by kernel_rfl)
    (hs : Region.noSelect ops = true := by kernel_rfl) (hf : Region.free md ops listed i = true := by kernel_rfl) (hr : (Region.ready md ops listed).contains i = true := by kernel_rfl)
    (hQ : ∀ c a w, Q (.panic c) (a.put d v) w → Q (.panic c) a w := by exact fun _ _ _ h => h) (hw : Region.wanted oi (yielded ops a.tmps) = true := by rfl)
    (hy : ∀ w, S w → (execOp a.eval oi).run P w = .ok (.value v) w := by (intro w hSw; (try dsimp only at hSw); go_simp <;> (with_reducible rfl))) (hS : S w := by assumption)
    (ha : a.put d v = a' := by ((try simp only [Act.put, List.setIfInBounds_toArray, List.set_cons_zero, List.set_cons_succ]); rfl)) : wpAnyH P md ops Q S (fuel + 1) listed a w := by
  subst ha
  exact takeL i d hi hd hs hf hr hQ hw hy hS h
theorem tU (i : Nat) (d : Option Tmp) {oi : Oper} {fuel : Nat} {listed : Array Bool} {a a' : Act} {w : World}
    (h : wpAnyH P md ops Q S fuel (listed.setIfInBounds i true) a' w) (hi : ops[i]? = some oi := by rfl) (hd : oi.dst = d := by kernel_rfl)
    (hs : Region.noSelect ops = true := by kernel_rfl) (hf : Region.free md ops listed i = true := by kernel_rfl) (hr : (Region.ready md ops listed).contains i = true := by kernel_rfl)
    (hQ : ∀ c a w, Q (.panic c) (a.put d undef) w → Q (.panic c) a w := by exact fun _ _ _ h => h) (hw : Region.wanted oi (yielded ops a.tmps) = false := by rfl) (hS : S w := by assumption)
    (ha : a.put d undef = a' := by ((try simp only [Act.put, List.setIfInBounds_toArray, List.set_cons_zero, List.set_cons_succ]); rfl)) : wpAnyH P md ops Q S (fuel + 1) listed a w := by
  subst ha
  exact takeU i d hi hd hs hf hr hQ hw hS h
end
end Go.Proofs.YthdofdglbdfkkaaDoor
