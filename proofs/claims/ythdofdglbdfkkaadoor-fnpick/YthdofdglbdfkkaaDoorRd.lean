/-
  The reader of a code: what its functions draw, whatever the code: numbers within their bounds; they write into the reader alone, and lay new blocks.
-/
import Derived.Test.YthdofdglbdfkkaaDoorRows
import Derived.Test.YthdofdglbdfkkaaDoorPaA
import Derived.WalkKit
import Derived.ProofKit
import Derived.OpenShut
import Derived.WalkSpells
import Derived.WalkLawsBesides
import Derived.Outline
import Derived.BigQuiet
namespace Go.Proofs.YthdofdglbdfkkaaDoor
open Go.ChangeShapes Go.WideShapes Go.ChangeAt Go.RowKit
set_option linter.unusedVariables false

theorem alloc_lt (w : World) (o : Obj) : w.heap.size < (w.alloc o).heap.size := by show w.heap.size < (w.heap.push _).size; simp
/-- A reader lies in block R, at place p, over a slice of bytes below B. -/
def RdS (B R : Nat) (a : Option Addr) (len cap : Nat) (zs : Nat → Int) (p : Int) (w : World) : Prop :=
  B ≤ R ∧ R < w.heap.size ∧ w.cell? ⟨R, 0, none⟩ = some (.slice a len cap) ∧ w.cell? ⟨R, 1, none⟩ = some (.int .i64 p) ∧ w.frozen? ⟨R, 1, none⟩ = false ∧ len ≤ 2000 ∧
  (len = 0 ∨ ∃ b off, a = some ⟨b, off, none⟩ ∧ b < B ∧ ∀ i, i < len → w.cell? ⟨b, off + i, none⟩ = some (.int .u8 (zs i)) ∧ 0 ≤ zs i ∧ zs i ≤ 255)
def Rd (B R : Nat) (p : Int) (w : World) : Prop := ∃ a len cap zs, RdS B R a len cap zs p w

theorem cell_set_other {w : World} {p q : Addr} {v : Value} (h : q.block ≠ p.block) : (w.setCell p v).cell? q = w.cell? q :=
  World.cell?_of_block (w := w) (Below.heap_setCell w p v q.block h)
theorem RdS.set {B R : Nat} {a : Option Addr} {len cap : Nat} {zs : Nat → Int} {p q : Int} {w : World} (h : RdS B R a len cap zs p w) :
    RdS B R a len cap zs q (w.setCell ⟨R, 1, none⟩ (.int .i64 q)) := by
  obtain ⟨h1, h2, h3, h4, h5, h6, h7⟩ := h
  refine ⟨h1, by simpa using h2, ?_, ?_, ?_, h6, ?_⟩
  · exact (World.cell?_setCell_other w ⟨R, 1, none⟩ ⟨R, 0, none⟩ _ (by simp)).trans h3
  · exact World.cell?_setCell_same _ _ _ h4
  · rw [World.frozen?_setCell]; exact h5
  · rcases h7 with h7 | ⟨b, off, rfl, hb, hc⟩
    · exact .inl h7
    · refine .inr ⟨b, off, rfl, hb, fun i hi => ⟨?_, (hc i hi).2⟩⟩
      rw [cell_set_other (by simp; omega)]; exact (hc i hi).1

theorem RdS.drew {B R : Nat} {a : Option Addr} {len cap : Nat} {zs : Nat → Int} {p : Int} {w : World} (h : RdS B R a len cap zs p w) (m : Nat) : RdS B R a len cap zs p (w.drewN m) := h
theorem below_set {B R : Nat} {w : World} (h : B ≤ R) (v : Value) (m : Nat) : Below B w ((w.setCell ⟨R, 1, none⟩ v).drewN m) := below_drewN ((Below.refl _ _).setCell h _) m
/-- Of what was there, block R alone may have turned. -/
structure Only (R : Nat) (w w' : World) : Prop where
  os : w'.os = w.os
  tape : w'.tape = w.tape
  output : w'.output = w.output
  size : w.heap.size ≤ w'.heap.size
  block : ∀ k, k < w.heap.size → k ≠ R → w'.heap[k]? = w.heap[k]?
theorem Only.refl (R : Nat) (w : World) : Only R w w := ⟨rfl, rfl, rfl, Nat.le_refl _, fun _ _ _ => rfl⟩
theorem Only.trans {R : Nat} {a b c : World} (h : Only R a b) (k : Only R b c) : Only R a c :=
  ⟨k.os.trans h.os, k.tape.trans h.tape, k.output.trans h.output, Nat.le_trans h.size k.size, fun i hi hR => (k.block i (Nat.lt_of_lt_of_le hi h.size) hR).trans (h.block i hi hR)⟩
theorem Only.of_below {R : Nat} {w w' : World} (h : Below w.heap.size w w') : Only R w w' := ⟨h.os, h.tape, h.output, h.size, fun k hk _ => h.block k hk⟩
theorem Only.alloc {R : Nat} {a w : World} (h : Only R a w) (o : Obj) : Only R a (w.alloc o) := h.trans (.of_below ((Below.refl _ _).alloc (Nat.le_refl _) _))
theorem Only.below {B R : Nat} {w w' : World} (h : Only R w w') (hB : B ≤ R) (hs : B ≤ w.heap.size) : Below B w w' := ⟨h.os, h.tape, h.output, h.size, fun k hk => h.block k (Nat.lt_of_lt_of_le hk hs) (by omega)⟩
theorem Only.cell {R : Nat} {w w' : World} (h : Only R w w') {x : Addr} (hx : x.block < w.heap.size) (hR : x.block ≠ R) : w'.cell? x = w.cell? x := World.cell?_of_block (w := w) (h.block x.block hx hR)
theorem Only.set {R : Nat} {w : World} (o : Nat) (v : Value) (m : Nat) : Only R w ((w.setCell ⟨R, o, none⟩ v).drewN m) := by
  have hb : ∀ k, k ≠ R → ((w.setCell ⟨R, o, none⟩ v).drewN m).heap[k]? = w.heap[k]? := fun k hk => Below.heap_setCell w ⟨R, o, none⟩ v k hk
  have h0 := below_drewN ((Below.refl 0 w).setCell (p := ⟨R, o, none⟩) (Nat.zero_le _) v) m
  exact ⟨h0.os, h0.tape, h0.output, h0.size, fun k _ hk => hb k hk⟩
theorem i64_xor_nonneg {x y : Int} (h1 : 0 ≤ x) (h2 : x < 1099511627776) (h3 : 0 ≤ y) (h4 : y < 1099511627776) : 0 ≤ bits .xor .i64 x y ∧ bits .xor .i64 x y < 1099511627776 := by
  have e : bits .xor .i64 x y = ((x.toNat ^^^ y.toNat : Nat) : Int) := by
    show IntKind.i64.wrap ((BitVec.ofInt 64 x ^^^ BitVec.ofInt 64 y).toNat : Nat) = _
    rw [BitVec.toNat_xor, ofInt64 x h1 (by omega), ofInt64 y h3 (by omega), IntKind.wrap_i64]
    have := Nat.xor_lt_two_pow (x := x.toNat) (y := y.toNat) (n := 40) (by omega) (by omega)
    omega
  have := Nat.xor_lt_two_pow (x := x.toNat) (y := y.toNat) (n := 40) (by omega) (by omega)
  omega

theorem pick_small {B R : Nat} {a : Option Addr} {len cap : Nat} {zs : Nat → Int} {p : Int} (n : Int) (w : World) (h : RdS B R a len cap zs p w) (hp0 : 0 ≤ p) (hp1 : p < 1000000) (hn : n < 1) :
    Calls Tryd.prog 52 #[.pointer (some ⟨R, 0, none⟩), .int .i64 n] w fun e w' => e = .returned (.int .i64 0) ∧ ∃ m, w' = (w.setCell ⟨R, 1, none⟩ (.int .i64 (p + 1))).drewN m := by
  obtain ⟨h1, h2, h3, h4, h5, h6, h7⟩ := h
  have hw : wrap64 (p + 1) = p + 1 := IntWalk.wrap64_in _ (by omega)
  clear h7
  go_enter Tryd.func52, Tryd.ntmps52
  go_wp2
  go_ret
  exact ⟨rfl, 0, rfl⟩
theorem pick_none {B R : Nat} {a : Option Addr} {cap : Nat} {zs : Nat → Int} {p : Int} (n : Int) (w : World) (h : RdS B R a 0 cap zs p w) (hp0 : 0 ≤ p) (hp1 : p < 1000000) (hn : 1 ≤ n) :
    Calls Tryd.prog 52 #[.pointer (some ⟨R, 0, none⟩), .int .i64 n] w fun e w' => e = .returned (.int .i64 0) ∧ ∃ m, w' = (w.setCell ⟨R, 1, none⟩ (.int .i64 (p + 1))).drewN m := by
  have hs := (h.set (q := p + 1)).2.2.1
  obtain ⟨h1, h2, h3, h4, h5, h6, h7⟩ := h
  have hw : wrap64 (p + 1) = p + 1 := IntWalk.wrap64_in _ (by omega)
  clear h7
  go_enter Tryd.func52, Tryd.ntmps52
  go_wp2
  go_ret
  exact ⟨rfl, 0, rfl⟩
theorem pick_in {B R b off : Nat} {len cap : Nat} {zs : Nat → Int} {p : Int} (n : Int) (w : World) (h : RdS B R (some ⟨b, off, none⟩) len cap zs p w) (hp0 : 0 ≤ p) (hp1 : p < 1000000) (hn : 1 ≤ n)
    (hc : ∀ i, i < len → w.cell? ⟨b, off + i, none⟩ = some (.int .u8 (zs i)) ∧ 0 ≤ zs i ∧ zs i ≤ 255) (hbR : b ≠ R) (hin : p < len) :
    Calls Tryd.prog 52 #[.pointer (some ⟨R, 0, none⟩), .int .i64 n] w fun e w' => e = .returned (.int .i64 (zs p.toNat % n)) ∧ ∃ m, w' = (w.setCell ⟨R, 1, none⟩ (.int .i64 (p + 1))).drewN m := by
  have hs := (h.set (q := p + 1)).2.2.1
  have hs1 := (h.set (q := p + 1)).2.2.2.1
  obtain ⟨h1, h2, h3, h4, h5, h6, h7⟩ := h
  have hw : wrap64 (p + 1) = p + 1 := IntWalk.wrap64_in _ (by omega)
  have hcell : (w.setCell ⟨R, 1, none⟩ (.int .i64 (p + 1))).cell? ⟨b, off + p.toNat, none⟩ = some (.int .u8 (zs p.toNat)) := by
    rw [cell_set_other (by simpa using hbR)]; exact (hc _ (by omega)).1
  have hz := (hc p.toNat (by omega)).2
  have ht : (zs p.toNat).tmod n = zs p.toNat % n := Int.tmod_eq_emod_of_nonneg hz.1
  have hne : ¬ n = 0 := by omega
  have hl : ((len : Int) == 0) = false := by simp; omega
  clear h7 hc
  go_enter Tryd.func52, Tryd.ntmps52
  go_wp2
  go_ret
  exact ⟨rfl, 0, rfl⟩
theorem pick_out {B R b off : Nat} {len cap : Nat} {zs : Nat → Int} {p : Int} (n : Int) (w : World) (h : RdS B R (some ⟨b, off, none⟩) len cap zs p w) (hp0 : 0 ≤ p) (hp1 : p < 1000000) (hn : 1 ≤ n)
    (hc : ∀ i, i < len → w.cell? ⟨b, off + i, none⟩ = some (.int .u8 (zs i)) ∧ 0 ≤ zs i ∧ zs i ≤ 255) (hbR : b ≠ R) (hlen : 0 < len) (hin : (len : Int) ≤ p) :
    Calls Tryd.prog 52 #[.pointer (some ⟨R, 0, none⟩), .int .i64 n] w fun e w' => (∃ v, e = .returned (.int .i64 v) ∧ 0 ≤ v ∧ v < n) ∧ ∃ m, w' = (w.setCell ⟨R, 1, none⟩ (.int .i64 (p + 1))).drewN m := by
  have hs := (h.set (q := p + 1)).2.2.1
  have hs1 := (h.set (q := p + 1)).2.2.2.1
  obtain ⟨h1, h2, h3, h4, h5, h6, h7⟩ := h
  have hw : wrap64 (p + 1) = p + 1 := IntWalk.wrap64_in _ (by omega)
  have hl0 : ¬ (len : Int) = 0 := by omega
  have hl : ((len : Int) == 0) = false := by simp; omega
  have hlp : (0 : Int) < len := by omega
  have t1 : p.tmod len = p % len := Int.tmod_eq_emod_of_nonneg hp0
  have a1 := Int.emod_nonneg p hl0
  have a2 := Int.emod_lt_of_pos p hlp
  have w7 : wrap64 (p * 7) = p * 7 := IntWalk.wrap64_in _ (by omega)
  have w73 : wrap64 (p * 7 + 3) = p * 7 + 3 := IntWalk.wrap64_in _ (by omega)
  have t2 : (p * 7 + 3).tmod len = (p * 7 + 3) % len := Int.tmod_eq_emod_of_nonneg (by omega)
  have b1 := Int.emod_nonneg (p * 7 + 3) hl0
  have b2 := Int.emod_lt_of_pos (p * 7 + 3) hlp
  have hcell1 : (w.setCell ⟨R, 1, none⟩ (.int .i64 (p + 1))).cell? ⟨b, off + (p % len).toNat, none⟩ = some (.int .u8 (zs (p % len).toNat)) := by
    rw [cell_set_other (by simpa using hbR)]; exact (hc _ (by omega)).1
  have hcell2 : (w.setCell ⟨R, 1, none⟩ (.int .i64 (p + 1))).cell? ⟨b, off + ((p * 7 + 3) % len).toNat, none⟩ = some (.int .u8 (zs ((p * 7 + 3) % len).toNat)) := by
    rw [cell_set_other (by simpa using hbR)]; exact (hc _ (by omega)).1
  have hz1 := (hc (p % len).toNat (by omega)).2
  have hz2 := (hc ((p * 7 + 3) % len).toNat (by omega)).2
  generalize zs (p % len).toNat = z1 at *
  generalize zs ((p * 7 + 3) % len).toNat = z2 at *
  have hne : ¬ n = 0 := by omega
  have t3 : p.tdiv len = p / len := Int.tdiv_eq_ediv_of_nonneg hp0
  have d1 : 0 ≤ p / len := Int.ediv_nonneg hp0 (by omega)
  have d2 : p / len ≤ p := Int.ediv_le_self _ hp0
  generalize p / (len : Int) = q at *
  clear h7 hc
  go_enter Tryd.func52, Tryd.ntmps52
  go_wp2
  generalize hW2 : w.setCell ⟨R, 1, none⟩ (.int .i64 (p + 1)) = w2 at *
  have HW2 : Hid (w.setCell ⟨R, 1, none⟩ (.int .i64 (p + 1)) = w2) := hW2
  clear hW2
  go_quiet (fail)
  go_wp2
  go_ret
  have hx := i64_xor_nonneg (x := z1 * 131 + z2 * 1117 + p * 29 + q * 53) (y := (z1 * 131 + z2 * 1117 + p * 29 + q * 53) / 64) (by omega) (by omega) (by omega) (by omega)
  refine ⟨⟨_, rfl, ?_⟩, nq, by rw [HW2.out]⟩
  rw [Int.tmod_eq_emod_of_nonneg hx.1]
  exact ⟨Int.emod_nonneg _ hne, Int.emod_lt_of_pos _ (by omega)⟩

/-- The reader has gone on to q, and nothing beside it is touched. -/
def Went (B R : Nat) (q : Int) (w w' : World) : Prop := Rd B R q w' ∧ Only R w w'
theorem went_set {B R : Nat} {a : Option Addr} {len cap : Nat} {zs : Nat → Int} {p q : Int} {w : World} (h : RdS B R a len cap zs p w) (m : Nat) : Went B R q w ((w.setCell ⟨R, 1, none⟩ (.int .i64 q)).drewN m) :=
  ⟨⟨a, len, cap, zs, h.set.drew m⟩, Only.set 1 _ m⟩

/-- A number from 0 to n - 1, or 0; the reader goes on by one. -/
theorem c_rdpick {B R : Nat} {p : Int} (n : Int) (w : World) (h : Rd B R p w) (hp0 : 0 ≤ p) (hp1 : p < 1000000) :
    Calls Tryd.prog 52 #[.pointer (some ⟨R, 0, none⟩), .int .i64 n] w fun e w' => ∃ v, e = .returned (.int .i64 v) ∧ (1 ≤ n → 0 ≤ v ∧ v < n) ∧ (n < 1 → v = 0) ∧ Went B R (p + 1) w w' := by
  obtain ⟨a, len, cap, zs, h⟩ := h
  by_cases hn : n < 1
  · refine (pick_small n w h hp0 hp1 hn).mono ?_
    rintro e w' ⟨rfl, m, rfl⟩
    exact ⟨0, rfl, fun k => by omega, fun _ => rfl, went_set h m⟩
  · have hh := h
    rcases h.2.2.2.2.2.2 with rfl | ⟨b, off, rfl, hb, hc⟩
    · refine (pick_none n w h hp0 hp1 (by omega)).mono ?_
      rintro e w' ⟨rfl, m, rfl⟩
      exact ⟨0, rfl, fun k => by omega, fun _ => rfl, went_set h m⟩
    · have hB := h.1
      by_cases h0 : len = 0
      · subst h0
        refine (pick_none n w h hp0 hp1 (by omega)).mono ?_
        rintro e w' ⟨rfl, m, rfl⟩
        exact ⟨0, rfl, fun k => by omega, fun _ => rfl, went_set h m⟩
      · by_cases hin : p < len
        · refine (pick_in n w h hp0 hp1 (by omega) hc (by omega) hin).mono ?_
          rintro e w' ⟨rfl, m, rfl⟩
          exact ⟨_, rfl, fun k => ⟨Int.emod_nonneg _ (by omega), Int.emod_lt_of_pos _ (by omega)⟩, fun k => by omega, went_set h m⟩
        · refine (pick_out n w h hp0 hp1 (by omega) hc (by omega) (by omega) (by omega)).mono ?_
          rintro e w' ⟨⟨v, rfl, hv⟩, m, rfl⟩
          exact ⟨v, rfl, fun _ => hv, fun k => by omega, went_set h m⟩

theorem Rd.below {B R : Nat} {p : Int} {w w' : World} {C : Nat} (h : Rd B R p w) (hb : Below C w w') (hC : R < C) (hBC : B ≤ C) : Rd B R p w' := by
  obtain ⟨a, len, cap, zs, h1, h2, h3, h4, h5, h6, h7⟩ := h
  refine ⟨a, len, cap, zs, h1, Nat.lt_of_lt_of_le h2 hb.size, ?_, ?_, ?_, h6, ?_⟩
  · rw [hb.cell (p := ⟨R, 0, none⟩) hC]; exact h3
  · rw [hb.cell (p := ⟨R, 1, none⟩) hC]; exact h4
  · rw [hb.frozen (p := ⟨R, 1, none⟩) hC]; exact h5
  · rcases h7 with h7 | ⟨b, off, rfl, hbB, hc⟩
    · exact .inl h7
    · refine .inr ⟨b, off, rfl, hbB, fun i hi => ⟨?_, (hc i hi).2⟩⟩
      rw [hb.cell (p := ⟨b, off + i, none⟩) (Nat.lt_of_lt_of_le hbB hBC)]; exact (hc i hi).1

theorem Rd.lt {B R : Nat} {p : Int} {w : World} (h : Rd B R p w) : R < w.heap.size := by obtain ⟨_, _, _, _, h⟩ := h; exact h.2.1
theorem Rd.le {B R : Nat} {p : Int} {w : World} (h : Rd B R p w) : B ≤ R := by obtain ⟨_, _, _, _, h⟩ := h; exact h.1
theorem Rd.alloc {B R : Nat} {p : Int} {w : World} (h : Rd B R p w) (o : Obj) : Rd B R p (w.alloc o) :=
  h.below ((Below.refl _ _).alloc (Nat.le_refl _) _) h.lt (Nat.le_trans h.le (Nat.le_of_lt h.lt))

/-- A reader that has gone on to hi at most. -/
def RdTo (B R : Nat) (hi : Int) (w : World) : Prop := ∃ q, 0 ≤ q ∧ q ≤ hi ∧ Rd B R q w
theorem RdTo.lt {B R : Nat} {p : Int} {w : World} (h : RdTo B R p w) : R < w.heap.size := by obtain ⟨_, _, _, h⟩ := h; exact h.lt
theorem RdTo.le {B R : Nat} {p : Int} {w : World} (h : RdTo B R p w) : B ≤ R := by obtain ⟨_, _, _, h⟩ := h; exact h.le
theorem RdTo.alloc {B R : Nat} {p : Int} {w : World} (h : RdTo B R p w) (o : Obj) : RdTo B R p (w.alloc o) := by obtain ⟨q, h1, h2, h⟩ := h; exact ⟨q, h1, h2, h.alloc o⟩
theorem RdTo.mono {B R : Nat} {p q : Int} {w : World} (h : RdTo B R p w) (hq : p ≤ q) : RdTo B R q w := by obtain ⟨q', h1, h2, h⟩ := h; exact ⟨q', h1, by omega, h⟩
theorem RdTo.drew {B R : Nat} {p : Int} {w : World} (h : RdTo B R p w) (m : Nat) : RdTo B R p (w.drewN m) := h
theorem RdTo.below {B R : Nat} {p : Int} {w w' : World} {C : Nat} (h : RdTo B R p w) (hb : Below C w w') (hC : R < C) (hBC : B ≤ C) : RdTo B R p w' := by obtain ⟨q, h1, h2, h⟩ := h; exact ⟨q, h1, h2, h.below hb hC hBC⟩

theorem k_pick {B R : Nat} {p : Int} (n : Int) (w : World) (h : RdTo B R p w) (hp1 : p < 900000) :
    Calls Tryd.prog 52 #[.pointer (some ⟨R, 0, none⟩), .int .i64 n] w fun e w' => ∃ v, e = .returned (.int .i64 v) ∧ (1 ≤ n → 0 ≤ v ∧ v < n) ∧ RdTo B R (p + 1) w' ∧ Only R w w' := by
  obtain ⟨q, h1, h2, h⟩ := h
  refine (c_rdpick n w h h1 (by omega)).mono ?_
  rintro e w' ⟨v, rfl, hv, -, hW⟩
  exact ⟨v, rfl, hv, ⟨q + 1, by omega, by omega, hW.1⟩, hW.2⟩

/-- A slice of bytes that lies below B, nil or not. -/
def BytesAt (B : Nat) (w : World) (a : Option Addr) (len cap : Nat) : Prop :=
  len ≤ cap ∧ cap ≤ maxLen ∧ (a = none → cap = 0) ∧ (len = 0 ∨ ∃ b off, ∃ zs : Nat → Int, a = some ⟨b, off, none⟩ ∧ b < B ∧ ∀ i, i < len → w.cell? ⟨b, off + i, none⟩ = some (.int .u8 (zs i)) ∧ 0 ≤ zs i ∧ zs i ≤ 255)
theorem bytes_of {w : World} {a : Option Addr} {len cap : Nat} {zs : List Int}
    (h : (a = none ∧ len = 0 ∧ cap = 0 ∧ zs = []) ∨ ∃ x, a = some x ∧ len ≤ cap ∧ cap ≤ maxLen ∧ zs.length = cap ∧ (∀ i, i < zs.length → w.cell? (x.add i) = some (.int .u8 (zs.getD i 0))) ∧ ∀ n ∈ zs, (Lit.int .u8 n).wf = true) :
    BytesAt w.heap.size w a len cap := by
  rcases h with ⟨rfl, rfl, rfl, rfl⟩ | ⟨x, rfl, hl, hm, hz, hcell, hwz⟩
  · exact ⟨Nat.le_refl _, Nat.zero_le _, fun _ => rfl, .inl rfl⟩
  · refine ⟨hl, hm, fun e => by simp at e, ?_⟩
    by_cases h0 : len = 0
    · exact .inl h0
    · obtain ⟨b, off, spot⟩ := x
      have hc := hcell 0 (by omega)
      have hspot : spot = none := by simpa [Addr.add] using World.cell?_spot hc
      subst hspot
      refine .inr ⟨b, off, fun i => zs.getD i 0, rfl, ?_, fun i hi => ⟨?_, ?_⟩⟩
      · exact block_lt_of_cell (by simpa [Addr.add] using hc)
      · have hadd : (⟨b, off, none⟩ : Addr).add i = ⟨b, off + i, none⟩ := by unfold Addr.add; split <;> simp_all
        rw [← hadd]; exact hcell i (by omega)
      · have hm' : zs.getD i 0 ∈ zs := by
          rw [List.getD_eq_getElem?_getD, List.getElem?_eq_getElem (by omega)]; exact List.getElem_mem ..
        have := bounds_u8 (hwz _ hm')
        exact this
theorem BytesAt.below {B : Nat} {w w' : World} {a : Option Addr} {len cap : Nat} (h : BytesAt B w a len cap) (hb : Below B w w') : BytesAt B w' a len cap := by
  obtain ⟨h1, h2, h3, h4⟩ := h
  refine ⟨h1, h2, h3, ?_⟩
  rcases h4 with h4 | ⟨b, off, zs, rfl, hlt, hc⟩
  · exact .inl h4
  · exact .inr ⟨b, off, zs, rfl, hlt, fun i hi => ⟨by rw [hb.cell (p := ⟨b, off + i, none⟩) hlt]; exact (hc i hi).1, (hc i hi).2⟩⟩

theorem c_l17Open {B : Nat} {a : Option Addr} {len cap : Nat} (w : World) (h : BytesAt B w a len cap) (hB : B ≤ w.heap.size) :
    Calls Tryd.prog 34 #[.slice a len cap] w fun e w' => e = .returned (.pointer (some ⟨w.heap.size, 0, none⟩)) ∧ RdTo B w.heap.size 0 w' ∧ Below B w w' := by
  obtain ⟨h1, h2, h3, h4⟩ := h
  have fin : ∀ l, l ≤ len → l ≤ 2000 → RdTo B w.heap.size 0 (w.alloc (.cells #[.slice a l cap, .int .i64 0] 82)) := fun l hl hl2 => by
    have hb : Below w.heap.size w (w.alloc (.cells #[.slice a l cap, .int .i64 0] 82)) := (Below.refl _ _).alloc (Nat.le_refl _) _
    have hcells : ∀ i, (w.alloc (.cells #[.slice a l cap, .int .i64 0] 82)).cell? ⟨w.heap.size, i, none⟩ = #[Value.slice a l cap, .int .i64 0][i]? := fun i => World.cell?_alloc_at _ _ _ _ rfl
    have hsz : w.heap.size < (w.alloc (.cells #[.slice a l cap, .int .i64 0] 82)).heap.size := by show w.heap.size < (w.heap.push _).size; simp
    have hfz : (w.alloc (.cells #[.slice a l cap, .int .i64 0] 82)).frozen? ⟨w.heap.size, 1, none⟩ = false := World.frozen?_alloc_at _ _ _ _ rfl
    rcases h4 with h4 | ⟨b, off, zs, rfl, hlt, hc⟩
    · exact ⟨0, Int.le_refl _, Int.le_refl _, a, l, cap, fun _ => 0, hB, hsz, hcells 0, hcells 1, hfz, hl2, .inl (by omega)⟩
    · refine ⟨0, Int.le_refl _, Int.le_refl _, _, l, cap, zs, hB, hsz, hcells 0, hcells 1, hfz, hl2, .inr ⟨b, off, rfl, hlt, fun i hi => ⟨?_, (hc i (by omega)).2⟩⟩⟩
      rw [hb.cell (p := ⟨b, off + i, none⟩) (Nat.lt_of_lt_of_le hlt hB)]; exact (hc i (by omega)).1
  by_cases hc : 2000 < len
  · have hi : (2000 : Int) < len := by omega
    have h20 : 2000 ≤ cap := by omega
    go_enter Tryd.func34, Tryd.ntmps34
    go_wp2
    go_ret
    exact ⟨rfl, fin 2000 (by omega) (by omega), (Below.refl _ _).alloc hB _⟩
  · have hi : ¬ (2000 : Int) < len := by omega
    go_enter Tryd.func34, Tryd.ntmps34
    go_wp2
    go_ret
    exact ⟨rfl, fin len (by omega) (by omega), (Below.refl _ _).alloc hB _⟩
end Go.Proofs.YthdofdglbdfkkaaDoor
