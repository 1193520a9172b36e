/-
  Parts: ResP, ModD, ModA, ModB, ModC, Names, ModE, shortened.
-/
import Derived.Test.YtlcgimadbpagfaaGreatZNodeM
import Derived.Test.YtlcgimadbpagfaaGreatZWTwoA
namespace Go.Proofs.YtlcgimadbpagfaaGreat
open Go.Lib
open Go.ChangeShapes Go.WideShapes Go.ChangeAt Go.RowKit
set_option linter.unusedVariables false
theorem c_l2Word (n : Int) (w : World) :
  Calls Tryz.prog 158 #[.int .i64 n] w fun e w' => e = .returned (.agg #[.int .i64 0, .int .i64 n]) ∧ w' = w.alloc (.cells #[.int .i64 0, .int .i64 n] 109) := by
 go_enter Tryz.func158, Tryz.ntmps158
 go_wp2
 exact bodyPost_ret (v := .agg #[.int .i64 0, .int .i64 n]) (results_cell_row rfl _ _ w.heap.size 109 #[.int .i64 0, .int .i64 n] (0, 0) _ rfl (heap_alloc_new _ _) Tryz.underlying109 rfl (by kernel_rfl)) rfl ⟨rfl, rfl⟩
def ResP (x : ND) (a b c : Int × Int) (w : World) (e : Ending) (w' : World) : Prop :=
 ∃ i n, e = .returned (.tuple #[.agg #[.int .i64 i, .int .i64 n], .bool (decide (kOk x a b c))]) ∧ (kOk x a b c → (i, n) = kSort x a b c) ∧ Below w.heap.size w w'
def SortsAt (w : World) (g : Nat) (l : List (Int × Int)) : Prop :=
 g < w.heap.size ∧ ∀ t (h : t < l.length), w.cell? ⟨g, 2 * t, none⟩ = some (.int .i64 (l[t]).1) ∧ w.cell? ⟨g, 2 * t + 1, none⟩ = some (.int .i64 (l[t]).2)
theorem res_no {x : ND} {a b c : Int × Int} {w w' : World} {i n : Int} (h : ¬ kOk x a b c) (hb : Below w.heap.size w w') : ResP x a b c w (.returned (.tuple #[.agg #[.int .i64 i, .int .i64 n], .bool false])) w' :=
 ⟨i, n, by rw [decide_eq_false h], fun k => absurd k h, hb⟩
theorem res_yes {x : ND} {a b c : Int × Int} {w w' : World} {i n : Int} (h : kOk x a b c) (he : (i, n) = kSort x a b c) (hb : Below w.heap.size w w') : ResP x a b c w (.returned (.tuple #[.agg #[.int .i64 i, .int .i64 n], .bool true])) w' :=
 ⟨i, n, by rw [decide_eq_true h], fun _ => he, hb⟩
def WK (k : Int) : Prop := namedB k = false ∧ k ≠ 34 ∧ k ≠ 33 ∧ k ≠ 21 ∧ k ≠ 37 ∧ k ≠ 38
theorem kOk_words {x : ND} (h : WK x.kind) (a b c : Int × Int) : kOk x a b c ↔ (kWidth x a.2 b.2).2 = true ∧ a.1 = 0 ∧ b.1 = 0 := by
 obtain ⟨h0, h1, h2, h3, h4, h5⟩ := h
 unfold kOk
 rw [if_neg (by rw [h0]; simp), if_neg h1, if_neg h2, if_neg h3, if_neg h4, if_neg h5]
theorem kSort_words {x : ND} (h : WK x.kind) (a b c : Int × Int) : kSort x a b c = (0, (kWidth x a.2 b.2).1) := by
 obtain ⟨h0, h1, h2, h3, h4, h5⟩ := h
 unfold kSort
 rw [if_neg (by rw [h0]; simp [h1]), if_neg h2, if_neg h3, if_neg h4, if_neg h5]
theorem res_w {x : ND} {a b c : Int × Int} {w w' : World} {n : Int} {ok : Bool} (h : WK x.kind) (ha : a.1 = 0) (hb : b.1 = 0) (hn : ok = true → (kWidth x a.2 b.2).1 = n) (hok : (kWidth x a.2 b.2).2 = ok) (hB : Below w.heap.size w w') :
  ResP x a b c w (.returned (.tuple #[.agg #[.int .i64 0, .int .i64 n], .bool ok])) w' := by
 refine ⟨0, n, ?_, ?_, hB⟩
 ·have : decide (kOk x a b c) = ok := by
   rw [← hok]
   by_cases hw : (kWidth x a.2 b.2).2 = true
   ·rw [hw]; exact decide_eq_true ((kOk_words h a b c).mpr ⟨hw, ha, hb⟩)
   ·have : (kWidth x a.2 b.2).2 = false := by simpa using hw
    rw [this]; exact decide_eq_false fun k => hw ((kOk_words h a b c).mp k).1
  rw [this]
 ·intro k
  rw [kSort_words h, hn (hok ▸ ((kOk_words h a b c).mp k).1)]
theorem res_arr {x : ND} {a b c : Int × Int} {w w' : World} {i n : Int} (h : WK x.kind) (ha : 0 < a.1 ∨ 0 < b.1) (hB : Below w.heap.size w w') :
  ResP x a b c w (.returned (.tuple #[.agg #[.int .i64 i, .int .i64 n], .bool false])) w' :=
 res_no (fun k => by have := (kOk_words h a b c).mp k; omega) hB
end Go.Proofs.YtlcgimadbpagfaaGreat
namespace Go.Proofs.YtlcgimadbpagfaaGreat
open Go.Lib
open Go.ChangeShapes Go.WideShapes Go.ChangeAt Go.RowKit
set_option linter.unusedVariables false
set_option maxRecDepth 100000
structure BD where
 st : Int
 nd : Int
instance : Inhabited BD := ⟨⟨0, 0⟩⟩
def BD.cells (x : BD) : List Value := [.int .i64 x.st, .int .i64 x.nd]
def BD.ok (x : BD) : Prop := fits x.st ∧ fits x.nd
theorem RowsAt.nodes {B : Nat} {w : World} {a : Option Addr} {len cap : Nat} {ns : List ND} (h : RowsAt ND.cells ND.ok 9 B w a len cap ns) : NodesAt B w a len cap ns := h
abbrev BindsAt := RowsAt BD.cells BD.ok 2
structure MD where
 ns : List ND
 is : List BD
 xs : List BD
 bads : List Int
 holds : List Int
structure ModelAt (B : Nat) (w : World) (s0 s1 s2 s3 s4 : SL) (M : MD) : Prop where
 ns : NodesAt B w s0.a s0.len s0.cap M.ns
 is : BindsAt B w s1.a s1.len s1.cap M.is
 xs : BindsAt B w s2.a s2.len s2.cap M.xs
 bads : IntsAt B w s3.a s3.len s3.cap M.bads
 holds : IntsAt B w s4.a s4.len s4.cap M.holds
def mcells (s0 s1 s2 s3 s4 : SL) : List Value := [.slice s0.a s0.len s0.cap, .slice s1.a s1.len s1.cap, .slice s2.a s2.len s2.cap, .slice s3.a s3.len s3.cap, .slice s4.a s4.len s4.cap]
theorem NodesAt.rows {B : Nat} {w : World} {a : Option Addr} {len cap : Nat} {ns : List ND} (h : NodesAt B w a len cap ns) : RowsAt ND.cells ND.ok 9 B w a len cap ns := h
theorem ModelAt.below {B : Nat} {w w' : World} {s0 s1 s2 s3 s4 : SL} {M : MD} (h : ModelAt B w s0 s1 s2 s3 s4 M) (hb : Below B w w') : ModelAt B w' s0 s1 s2 s3 s4 M :=
 ⟨(h.ns.rows.below hb).nodes, h.is.below hb, h.xs.below hb, h.bads.below hb, h.holds.below hb⟩
theorem ModelAt.mono {B B' : Nat} {w : World} {s0 s1 s2 s3 s4 : SL} {M : MD} (h : ModelAt B w s0 s1 s2 s3 s4 M) (hB : B ≤ B') : ModelAt B' w s0 s1 s2 s3 s4 M :=
 ⟨(h.ns.rows.mono hB).nodes, h.is.mono hB, h.xs.mono hB, h.bads.mono hB, h.holds.mono hB⟩
section
variable {H : Type} {enc : TypeId × Value → H} {w : World}
theorem open_bind {base : Nat} {spare : Nat → Bool} {held : Bool} {fuel : Nat} {cs : List Value} {x : DataW H × List MemPlace} (h : DataW.trod enc Tryz.prog w base spare held fuel 119 cs = some x) : ∃ nd : BD, cs = nd.cells ∧ nd.ok := by
 obtain ⟨xs, n, _, rfl, hl, hlen, hf⟩ := DataW.trod_struct Tryz.underlying119 h
 have hc : Tryz.prog.cellsOf 119 = 2 := by kernel_rfl
 rw [hc] at hl
 have k1 : Tryz.prog.cellsOf 3 = 1 := by kernel_rfl
 match cs, hl, xs, hlen with
 | [c0, c1], _, [y0, y1], _ =>
  have f0 := hf 0 _ rfl
  have f1 := hf 1 _ rfl
  simp [k1] at f0 f1
  obtain ⟨v0, e0, _, o0⟩ := DataW.trod_int Tryz.underlying3 f0
  obtain ⟨v1, e1, _, o1⟩ := DataW.trod_int Tryz.underlying3 f1
  simp at e0 e1
  subst e0 e1
  exact ⟨⟨v0, v1⟩, rfl, o0, o1⟩
theorem open_model {v : Value} {d : DataW H} {p : List MemPlace} {b0 : Nat} (hv : Value.okWide Tryz.prog w .any b0 26 v) (h : DataW.Trod enc Tryz.prog w 0 (fun _ => true) true 26 v d p) :
  ∃ s0 s1 s2 s3 s4 M, v = .agg (mcells s0 s1 s2 s3 s4).toArray ∧ ModelAt w.heap.size w s0 s1 s2 s3 s4 M := by
 obtain ⟨cs, rfl, _⟩ := okWide_struct Tryz.underlying26 hv
 obtain ⟨fuel, h⟩ := h
 simp only [Value.cells] at h
 obtain ⟨xs, n, _, _, hl, hlen, hf⟩ := DataW.trod_struct Tryz.underlying26 h
 have hc : Tryz.prog.cellsOf 26 = 5 := by kernel_rfl
 rw [hc] at hl
 have k1 : Tryz.prog.cellsOf 22 = 1 := by kernel_rfl
 have k2 : Tryz.prog.cellsOf 23 = 1 := by kernel_rfl
 have k3 : Tryz.prog.cellsOf 24 = 1 := by kernel_rfl
 obtain ⟨cs⟩ := cs
 simp only at hl hf
 match cs, hl, xs, hlen with
 | [c0, c1, c2, c3, c4], _, [y0, y1, y2, y3, y4], _ =>
  have f0 := hf 0 _ rfl
  have f1 := hf 1 _ rfl
  have f2 := hf 2 _ rfl
  have f3 := hf 3 _ rfl
  have f4 := hf 4 _ rfl
  simp [k1, k2, k3] at f0 f1 f2 f3 f4
  obtain ⟨s0, M0, e0, r0⟩ := open_rows (cells := ND.cells) (ok := ND.ok) (c := 9) Tryz.underlying22 (by kernel_rfl) (fun h => open_node h) (fun nd => ⟨_, rfl⟩) (by decide) f0
  obtain ⟨s1, M1, e1, r1⟩ := open_rows (cells := BD.cells) (ok := BD.ok) (c := 2) Tryz.underlying23 (by kernel_rfl) (fun h => open_bind h) (fun nd => ⟨_, rfl⟩) (by decide) f1
  obtain ⟨s2, M2, e2, r2⟩ := open_rows (cells := BD.cells) (ok := BD.ok) (c := 2) Tryz.underlying23 (by kernel_rfl) (fun h => open_bind h) (fun nd => ⟨_, rfl⟩) (by decide) f2
  obtain ⟨s3, M3, e3, r3⟩ := open_rows (cells := intCells) (ok := fits) (c := 1) Tryz.underlying24 (by kernel_rfl) (fun h => open_int h) (fun nd => ⟨_, rfl⟩) (by decide) f3
  obtain ⟨s4, M4, e4, r4⟩ := open_rows (cells := intCells) (ok := fits) (c := 1) Tryz.underlying24 (by kernel_rfl) (fun h => open_int h) (fun nd => ⟨_, rfl⟩) (by decide) f4
  simp at e0 e1 e2 e3 e4
  subst e0 e1 e2 e3 e4
  exact ⟨s0, s1, s2, s3, s4, ⟨M0, M1, M2, M3, M4⟩, rfl, ⟨r0, r1, r2, r3, r4⟩⟩
end
end Go.Proofs.YtlcgimadbpagfaaGreat
namespace Go.Proofs.YtlcgimadbpagfaaGreat
open Go.Lib
open Go.ChangeShapes Go.WideShapes Go.ChangeAt Go.RowKit
set_option linter.unusedVariables false
set_option maxRecDepth 100000
def kb (kind : Int) (x : ND) : Int := if x.kind = kind then bitsN x.si x.sw else 0
def allBits (kind : Int) : List ND → Int
 | [] => 0
 | x :: l => kb kind x + allBits kind l
theorem bitsN_range (i n : Int) : 0 ≤ bitsN i n ∧ bitsN i n ≤ 64 := by
 unfold bitsN cellsN
 by_cases h : SOK i n
 ·rw [if_pos h]
  obtain ⟨h0, h1, h2, h3⟩ := h
  have hi : i = 0 ∨ i = 1 ∨ i = 2 := by omega
  rcases hi with rfl | rfl | rfl
  ·have : ((2 : Int) ^ (0 : Int).toNat) = 1 := by decide
   rw [this]; omega
  ·have : ((2 : Int) ^ (1 : Int).toNat) = 2 := by decide
   rw [this]; omega
  ·have : ((2 : Int) ^ (2 : Int).toNat) = 4 := by decide
   rw [this]; omega
 ·rw [if_neg h]; omega
theorem kb_range (kind : Int) (x : ND) : 0 ≤ kb kind x ∧ kb kind x ≤ 64 := by
 unfold kb
 split
 ·exact bitsN_range _ _
 ·omega
theorem allBits_append (kind : Int) (l : List ND) (x : ND) : allBits kind (l ++ [x]) = allBits kind l + kb kind x := by
 induction l with
 | nil => simp [allBits]
 | cons y l ih => simp only [List.cons_append, allBits, ih]; omega
theorem allBits_take (kind : Int) (l : List ND) (k : Nat) (h : k < l.length) : allBits kind (l.take (k + 1)) = allBits kind (l.take k) + kb kind l[k] := by
 rw [← allBits_append, List.take_succ_eq_append_getElem h]
theorem allBits_range (kind : Int) (l : List ND) : 0 ≤ allBits kind l ∧ allBits kind l ≤ 64 * l.length := by
 induction l with
 | nil => simp [allBits]
 | cons y l ih => have := kb_range kind y; simp only [allBits, List.length_cons]; omega
theorem kb_yes {kind : Int} {x : ND} (h : x.kind = kind) : kb kind x = bitsN x.si x.sw := by unfold kb; rw [if_pos h]
theorem kb_no {kind : Int} {x : ND} (h : ¬ x.kind = kind) : kb kind x = 0 := by unfold kb; rw [if_neg h]
def Boxed (s0 s1 s2 s3 s4 : SL) (w wr : World) : Prop :=
 w.heap.size < wr.heap.size ∧ wr.cell? ⟨w.heap.size, 0, none⟩ = some (.slice s0.a s0.len s0.cap) ∧ wr.cell? ⟨w.heap.size, 1, none⟩ = some (.slice s1.a s1.len s1.cap) ∧ wr.cell? ⟨w.heap.size, 2, none⟩ = some (.slice s2.a s2.len s2.cap) ∧ wr.cell? ⟨w.heap.size, 3, none⟩ = some (.slice s3.a s3.len s3.cap) ∧ wr.cell? ⟨w.heap.size, 4, none⟩ = some (.slice s4.a s4.len s4.cap) ∧ Below w.heap.size w wr
theorem Boxed.new (s0 s1 s2 s3 s4 : SL) (w : World) (t : TypeId) : Boxed s0 s1 s2 s3 s4 w (w.alloc (.cells #[.slice s0.a s0.len s0.cap, .slice s1.a s1.len s1.cap, .slice s2.a s2.len s2.cap, .slice s3.a s3.len s3.cap, .slice s4.a s4.len s4.cap] t)) :=
 ⟨alloc_ltS _ _, World.cell?_alloc_new _ _ _ _, World.cell?_alloc_new _ _ _ _, World.cell?_alloc_new _ _ _ _, World.cell?_alloc_new _ _ _ _, World.cell?_alloc_new _ _ _ _, by go_grown⟩
theorem Boxed.below {s0 s1 s2 s3 s4 : SL} {w wr w' : World} (h : Boxed s0 s1 s2 s3 s4 w wr) (hb : Below wr.heap.size wr w') : Boxed s0 s1 s2 s3 s4 w w' := by
 obtain ⟨h1, c0, c1, c2, c3, c4, hB⟩ := h
 exact ⟨Nat.lt_of_lt_of_le h1 hb.size, (hb.cell (p := ⟨w.heap.size, 0, none⟩) h1).trans c0, (hb.cell (p := ⟨w.heap.size, 1, none⟩) h1).trans c1, (hb.cell (p := ⟨w.heap.size, 2, none⟩) h1).trans c2, (hb.cell (p := ⟨w.heap.size, 3, none⟩) h1).trans c3, (hb.cell (p := ⟨w.heap.size, 4, none⟩) h1).trans c4, hB.trans (hb.mono hB.size)⟩
theorem Boxed.drewN {s0 s1 s2 s3 s4 : SL} {w wr : World} (h : Boxed s0 s1 s2 s3 s4 w wr) (m : Nat) : Boxed s0 s1 s2 s3 s4 w (wr.drewN m) := ⟨h.1, h.2.1, h.2.2.1, h.2.2.2.1, h.2.2.2.2.1, h.2.2.2.2.2.1, below_drewN h.2.2.2.2.2.2 m⟩
theorem node_at {B : Nat} {w : World} {a : Option Addr} {len cap k : Nat} {ns : List ND} (h : NodesAt B w a len cap ns) (hk : k < len) :
  ∃ (nd : ND) (hk' : k < ns.length) (b off : Nat), nd = ns[k] ∧ nd.ok ∧ a = some ⟨b, off, none⟩ ∧ b < B ∧ ∀ j, j < 9 → w.cell? ⟨b, off + k * 9 + j, none⟩ = nd.cells[j]? := by
 obtain ⟨h1, h2, h3, h4, h5, h6⟩ := h
 rcases h6 with h6 | ⟨b, off, e, hlt, hc⟩
 ·omega
 ·exact ⟨_, by omega, b, off, rfl, h4 _ (List.getElem_mem ..), e, hlt, hc k (by omega)⟩
set_option maxHeartbeats 4000000 in
theorem c_l2All {B : Nat} {s0 s1 s2 s3 s4 : SL} {M : MD} (kind : Int) (w : World) (hBw : B ≤ w.heap.size) (h : ModelAt B w s0 s1 s2 s3 s4 M) (h60 : s0.len ≤ 60) :
  Calls Tryz.prog 113 #[.agg (mcells s0 s1 s2 s3 s4).toArray, .int .i64 kind] w fun e w' => e = .returned (.int .i64 (allBits kind M.ns)) ∧ Below w.heap.size w w' := by
 have HN := hid h.ns
 have hl0 : M.ns.length = s0.len := h.ns.1
 clear h
 obtain ⟨a0, l0, p0⟩ := s0
 simp only [mcells] at *
 go_enter Tryz.func113, Tryz.ntmps113
 go_wp2_with fail
 go_loopw [5, 6] (fun n i wr => ∃ k : Nat, k ≤ l0 ∧ i = .int .i64 k ∧ n = .int .i64 (allBits kind (M.ns.take k)) ∧ Boxed ⟨a0, l0, p0⟩ s1 s2 s3 s4 w wr) (fun _ i _ => l0 - (intOf i).toNat)
 case atStart => exact ⟨0, by omega, rfl, rfl, Boxed.new _ _ _ _ _ _ _⟩
 case round =>
  obtain ⟨k, hk, rfl, rfl, HX0⟩ := hrel
  have HX := hid HX0
  obtain ⟨hlt, b0, -, -, -, -, hBk⟩ := HX0
  have HB := hid hBk
  clear hBk
  by_cases hkl : k < l0
  ·have hki : (k : Int) < l0 := by omega
   obtain ⟨nd, hkn, b, off, hnd, hok, ha, hbB, hc⟩ := node_at ((HN.out.rows.below (HB.out.mono hBw)).nodes) hkl
   subst ha
   obtain ⟨c0, c1, c2, c3, c4, c5, c6, c7, c8⟩ := node_cells hc
   have hstep := allBits_take kind M.ns k hkn
   rw [← hnd] at hstep
   have hr1 := allBits_range kind (M.ns.take k)
   have hr2 := kb_range kind nd
   have hr3 : (M.ns.take k).length ≤ 60 := by simp; omega
   clear hc hnd
   by_cases hkk : nd.kind = kind
   ·have hwf : (Lit.int .i64 nd.sw).wf = true := hok.2.2.2.2.2.2.2.1
    rw [kb_yes hkk] at hstep hr2
    go_wp2_with fail
    refine (c_SortBitsS _ _ hwf _).mono ?_
    rintro e w1 ⟨rfl, hB1⟩
    have HX1 := hid (HX.out.below hB1)
    have hw : wrap64 (allBits kind (M.ns.take k) + bitsN nd.si nd.sw) = allBits kind (M.ns.take (k + 1)) := by rw [hstep]; exact IntWalk.wrap64_in _ (by omega)
    clear hB1 c0 c1 c2 c3 c4 c5 c6 c7 c8 b0
    go_wp2_with fail
    go_roundw
    case rel => exact ⟨k + 1, by omega, by go_num, by rw [hstep], HX1.out⟩
    case measure => simp [intOf]; omega
   ·rw [kb_no hkk] at hstep
    go_wp2_with fail
    go_roundw
    case rel => exact ⟨k + 1, by omega, by go_num, by rw [hstep]; simp, HX.out⟩
    case measure => simp [intOf]; omega
  ·have hki : ¬ (k : Int) < l0 := by omega
   have hke : M.ns.take k = M.ns := List.take_of_length_le (by omega)
   rw [hke]
   go_wp2_with fail
   go_ret
   exact ⟨rfl, HB.out⟩
end Go.Proofs.YtlcgimadbpagfaaGreat
namespace Go.Proofs.YtlcgimadbpagfaaGreat
open Go.Lib
open Go.ChangeShapes Go.WideShapes Go.ChangeAt Go.RowKit
set_option linter.unusedVariables false
set_option maxRecDepth 100000
theorem bind_at {B : Nat} {w : World} {a : Option Addr} {len cap k : Nat} {bs : List BD} (h : BindsAt B w a len cap bs) (hk : k < len) :
  ∃ (bd : BD) (b off : Nat), bd = bs.getD k default ∧ bd.ok ∧ a = some ⟨b, off, none⟩ ∧ b < B ∧ w.cell? ⟨b, off + k * 2, none⟩ = some (.int .i64 bd.st) ∧ w.cell? ⟨b, off + k * 2 + 1, none⟩ = some (.int .i64 bd.nd) := by
 obtain ⟨h1, h2, h3, h4, h5, h6⟩ := h
 have hk' : k < bs.length := by omega
 have hg : bs.getD k default = bs[k] := by simp [List.getD, hk']
 rcases h6 with h6 | ⟨b, off, e, hlt, hc⟩
 ·omega
 ·exact ⟨_, b, off, hg.symm, h4 _ (List.getElem_mem ..), e, hlt, hc k hk' 0 (by decide), hc k hk' 1 (by decide)⟩
def stAt (bs : List BD) (i : Nat) : Int := (bs.getD i default).st
def againN (bs : List BD) : Prop := ∃ x y, y < x ∧ x < bs.length ∧ stAt bs x = stAt bs y
set_option maxHeartbeats 4000000 in
theorem c_l2Again {B : Nat} {a : Option Addr} {len cap : Nat} {bs : List BD} (w : World) (hBw : B ≤ w.heap.size) (h : BindsAt B w a len cap bs) :
  Calls Tryz.prog 157 #[.slice a len cap] w fun e w' => BoolIs (againN bs) e ∧ Below w.heap.size w w' := by
 have HN := hid h
 have hlen : bs.length = len := h.1
 have hm := Nat.le_trans h.2.1 h.2.2.1
 unfold maxLen at hm
 clear h
 go_enter Tryz.func157, Tryz.ntmps157
 go_wp2_with fail
 go_loopw [3] (fun i wr => ∃ k : Nat, k ≤ len ∧ i = .int .i64 k ∧ (∀ x y : Nat, y < x → x < k → stAt bs x ≠ stAt bs y) ∧ Below w.heap.size w wr) (fun i _ => len - (intOf i).toNat)
 case atStart => exact ⟨0, by omega, rfl, fun x y _ h => by omega, Below.refl _ _⟩
 case round =>
  obtain ⟨k, hk, rfl, hno, hBk⟩ := hrel
  have HNO := hid hno
  have HB := hid hBk
  clear hno hBk
  by_cases hkl : k < len
  ·have hki : (k : Int) < len := by omega
   go_wp2_with fail
   go_loopw [4] (fun j wq => ∃ t : Nat, t ≤ k ∧ j = .int .i64 t ∧ (∀ y : Nat, y < t → stAt bs k ≠ stAt bs y) ∧ Below w.heap.size w wq) (fun j _ => k - (intOf j).toNat)
   case atStart => exact ⟨0, by omega, rfl, fun y h => by omega, HB.out⟩
   case round =>
    obtain ⟨t, ht, rfl, hnt, hBt⟩ := hrel
    have HNT := hid hnt
    have HBT := hid hBt
    clear hnt hBt
    by_cases htk : t < k
    ·have hti : (t : Int) < k := by omega
     have htl : (t : Int) < len := by omega
     obtain ⟨b1, b, off, e1, -, rfl, hbB, c0, -⟩ := bind_at (HN.out.below (HBT.out.mono hBw)) hkl
     obtain ⟨b2, b', off', e2, -, he, hbB', d0, -⟩ := bind_at (HN.out.below (HBT.out.mono hBw)) (show t < len by omega)
     simp only [Option.some.injEq, Addr.mk.injEq, and_true] at he
     obtain ⟨rfl, rfl⟩ := he
     have hs1 : stAt bs k = b1.st := by unfold stAt; rw [e1]
     have hs2 : stAt bs t = b2.st := by unfold stAt; rw [e2]
     have HS1 := hid hs1
     have HS2 := hid hs2
     clear e1 e2 hs1 hs2
     by_cases hst : b1.st = b2.st
     ·go_wp2_with fail
      go_quiet (fail)
      go_wp2_with fail
      go_ret
      exact ⟨BoolIs.yes ⟨k, t, htk, by omega, by rw [HS1.out, HS2.out, hst]⟩, below_drewN HBT.out _⟩
     ·go_wp2_with fail
      go_quiet (fail)
      go_wp2_with fail
      go_roundw
      case rel => exact ⟨t + 1, by omega, by go_num, fun y hy => by
        rcases Nat.lt_or_ge y t with h | h
        ·exact HNT.out y h
        ·obtain rfl : y = t := by omega
         rw [HS1.out, HS2.out]; exact hst, below_drewN HBT.out _⟩
      case measure => simp [intOf]; omega
    ·have hti : ¬ (t : Int) < k := by omega
     go_wp2_with fail
     go_roundw
     case rel => exact ⟨k + 1, by omega, by go_num, fun x y hy hx => by
        rcases Nat.lt_or_ge x k with h | h
        ·exact HNO.out x y hy h
        ·obtain rfl : x = k := by omega
         exact HNT.out y (by omega), HBT.out⟩
     case measure => simp [intOf]; omega
  ·have hki : ¬ (k : Int) < len := by omega
   go_wp2_with fail
   go_ret
   exact ⟨BoolIs.no (by rintro ⟨x, y, hy, hx, he⟩; exact HNO.out x y hy (by omega) he), HB.out⟩
end Go.Proofs.YtlcgimadbpagfaaGreat
namespace Go.Proofs.YtlcgimadbpagfaaGreat
open Go.Lib
open Go.ChangeShapes Go.WideShapes Go.ChangeAt Go.RowKit
set_option linter.unusedVariables false
set_option maxRecDepth 100000
def nmAt (ns : List ND) (i : Nat) : List UInt8 := (ns.getD i default).name.toList
def namesTwice (ns : List ND) : Prop := ∃ x y, y < x ∧ x < ns.length ∧ nmAt ns x ≠ [] ∧ nmAt ns x = nmAt ns y
def twiceN (M : MD) : Prop := namesTwice M.ns ∨ againN M.is ∨ againN M.xs
theorem node_name {B : Nat} {w : World} {a : Option Addr} {len cap k : Nat} {ns : List ND} (h : NodesAt B w a len cap ns) (hk : k < len) :
  ∃ (nm : ByteArray) (b off : Nat), nmAt ns k = nm.toList ∧ a = some ⟨b, off, none⟩ ∧ b < B ∧ w.cell? ⟨b, off + k * 9 + 8, none⟩ = some (.string nm) := by
 obtain ⟨nd, hk', b, off, hnd, hok, ha, hbB, hc⟩ := node_at h hk
 have hg : ns.getD k default = ns[k] := by simp [List.getD, hk']
 exact ⟨nd.name, b, off, by unfold nmAt; rw [hg, hnd], ha, hbB, hc 8 (by decide)⟩
set_option maxHeartbeats 4000000 in
theorem c_l2Twice {B : Nat} {s0 s1 s2 s3 s4 : SL} {M : MD} (w : World) (hBw : B ≤ w.heap.size) (h : ModelAt B w s0 s1 s2 s3 s4 M) :
  Calls Tryz.prog 118 #[.agg (mcells s0 s1 s2 s3 s4).toArray] w fun e w' => BoolIs (twiceN M) e ∧ Below w.heap.size w w' := by
 have HN := hid h.ns
 have HI := hid h.is
 have HX := hid h.xs
 have hl0 : M.ns.length = s0.len := h.ns.1
 have hm := Nat.le_trans h.ns.2.1 h.ns.2.2.1
 unfold maxLen at hm
 clear h
 obtain ⟨a0, l0, p0⟩ := s0
 simp only [mcells] at *
 go_enter Tryz.func118, Tryz.ntmps118
 go_wp2_with fail
 go_loopw [3] (fun i wr => ∃ k : Nat, k ≤ l0 ∧ i = .int .i64 k ∧ (∀ x y : Nat, y < x → x < k → nmAt M.ns x ≠ [] → nmAt M.ns x ≠ nmAt M.ns y) ∧ Boxed ⟨a0, l0, p0⟩ s1 s2 s3 s4 w wr) (fun i _ => l0 - (intOf i).toNat)
 case atStart => exact ⟨0, by omega, rfl, fun x y _ h => by omega, Boxed.new _ _ _ _ _ _ _⟩
 case round =>
  obtain ⟨k, hk, rfl, hno, HX0⟩ := hrel
  have HNO := hid hno
  have HBX := hid HX0
  obtain ⟨hlt, b0, b1, b2, -, -, hBk⟩ := HX0
  have HB := hid hBk
  clear hno hBk
  by_cases hkl : k < l0
  ·have hki : (k : Int) < l0 := by omega
   clear b1 b2
   go_wp2_with fail
   clear b0
   go_loopw [4] (fun j wq => ∃ t : Nat, t ≤ k ∧ j = .int .i64 t ∧ (nmAt M.ns k ≠ [] → ∀ y : Nat, y < t → nmAt M.ns k ≠ nmAt M.ns y) ∧ Boxed ⟨a0, l0, p0⟩ s1 s2 s3 s4 w wq) (fun j _ => k - (intOf j).toNat)
   case atStart => exact ⟨0, by omega, rfl, fun _ y h => by omega, HBX.out⟩
   case round =>
    obtain ⟨t, ht, rfl, hnt, HX0⟩ := hrel
    have HNT := hid hnt
    have HXT := hid HX0
    obtain ⟨hlt, b0, -, -, -, -, hBt⟩ := HX0
    have HBT := hid hBt
    clear hnt hBt
    by_cases htk : t < k
    ·have hti : (t : Int) < k := by omega
     have htl : (t : Int) < l0 := by omega
     obtain ⟨n1, b, off, e1, rfl, hbB, c8⟩ := node_name ((HN.out.rows.below (HBT.out.mono hBw)).nodes) hkl
     obtain ⟨n2, b', off', e2, he, hbB', d8⟩ := node_name ((HN.out.rows.below (HBT.out.mono hBw)).nodes) (show t < l0 by omega)
     simp only [Option.some.injEq, Addr.mk.injEq, and_true] at he
     obtain ⟨rfl, rfl⟩ := he
     have HS1 := hid e1
     have HS2 := hid e2
     clear e1 e2
     by_cases hz : n1.toList = []
     ·have hz' : (!n1.toList.isEmpty) = false := by rw [hz]; rfl
      clear d8
      go_wp2_with fail
      go_quiet (fail)
      go_wp2_with fail
      go_roundw
      case rel => exact ⟨t + 1, by omega, by go_num, fun h => absurd (HS1.out.trans hz) h, HXT.out.drewN _⟩
      case measure => simp [intOf]; omega
     ·have hz' : (!n1.toList.isEmpty) = true := by cases hq : n1.toList with | nil => exact absurd hq hz | cons => rfl
      by_cases hst : n1.toList = n2.toList
      ·have hq : (n1.toList == n2.toList) = true := by simpa using hst
       have HST := hid hst
       have HZ := hid hz
       clear hst hz
       go_wp2_with fail
       go_quiet (fail)
       go_wp2_with fail
       go_ret
       exact ⟨BoolIs.yes (.inl ⟨k, t, htk, by omega, by rw [HS1.out]; exact HZ.out, by rw [HS1.out, HS2.out]; exact HST.out⟩), below_drewN HBT.out _⟩
      ·have hq : (n1.toList == n2.toList) = false := by simpa using hst
       have HST := hid hst
       have HZ := hid hz
       clear hst hz
       go_wp2_with fail
       go_quiet (fail)
       go_wp2_with fail
       go_roundw
       case rel => exact ⟨t + 1, by omega, by go_num, fun hn y hy => by
         rcases Nat.lt_or_ge y t with h | h
         ·exact HNT.out hn y h
         ·obtain rfl : y = t := by omega
          rw [HS1.out, HS2.out]; exact HST.out, HXT.out.drewN _⟩
       case measure => simp [intOf]; omega
    ·have hti : ¬ (t : Int) < k := by omega
     go_wp2_with fail
     go_roundw
     case rel => exact ⟨k + 1, by omega, by go_num, fun x y hy hx hn => by
        rcases Nat.lt_or_ge x k with h | h
        ·exact HNO.out x y hy h hn
        ·obtain rfl : x = k := by omega
         exact HNT.out hn y (by omega), HXT.out⟩
     case measure => simp [intOf]; omega
  ·have hki : ¬ (k : Int) < l0 := by omega
   have HNN := hid (show ¬ namesTwice M.ns by rintro ⟨x, y, hy, hx, hn, he⟩; exact HNO.out x y hy (by omega) hn he)
   have h1B : B ≤ wr.heap.size := Nat.le_trans hBw HB.out.size
   go_wp2_with fail
   refine (c_l2Again wr h1B (HI.out.below (HB.out.mono hBw))).mono ?_
   rintro e w1 ⟨⟨r, rfl, hr⟩, hB1⟩
   have HR := hid hr
   have HX1 := hid (HBX.out.below hB1)
   obtain ⟨-, -, -, z2, -, -, hBz⟩ := HBX.out.below hB1
   have HB1 := hid hBz
   clear hr hB1 b0 b1 b2 hBz
   cases r
   ·go_wp2_with fail
    refine (c_l2Again w1 (Nat.le_trans hBw HB1.out.size) (HX.out.below (HB1.out.mono hBw))).mono ?_
    rintro e w2 ⟨⟨r2, rfl, hr2⟩, hB2⟩
    have HR2 := hid hr2
    have HB2 := hid (HB1.out.trans (hB2.mono HB1.out.size))
    clear hr2 hB2 z2
    go_wp2_with fail
    go_ret
    cases r2
    ·exact ⟨BoolIs.no (by rintro (h | h | h); exact HNN.out h; exact absurd (HR.out.2 h) (by simp); exact absurd (HR2.out.2 h) (by simp)), HB2.out⟩
    ·exact ⟨BoolIs.yes (.inr (.inr (HR2.out.1 (by trivial)))), HB2.out⟩
   ·go_wp2_with fail
    go_ret
    exact ⟨BoolIs.yes (.inr (.inl (HR.out.1 (by trivial)))), HB1.out⟩
end Go.Proofs.YtlcgimadbpagfaaGreat
namespace Go.Proofs.YtlcgimadbpagfaaGreat
open Go.Lib
open Go.ChangeShapes Go.WideShapes Go.ChangeAt Go.RowKit
set_option linter.unusedVariables false
theorem c_l1In_t (n lo hi : Int) (h1 : lo ≤ n) (h2 : n ≤ hi) (w : World) :
  Calls Tryz.prog 75 #[.int .i64 n, .int .i64 lo, .int .i64 hi] w fun e w' => e = .returned (.bool true) ∧ w = w' :=
 (c_l1In n lo hi w).mono fun e w' ⟨he, hw⟩ => ⟨by rw [he]; simp [h1, h2], hw.symm⟩
theorem c_l1In_f (n lo hi : Int) (h : n < lo ∨ hi < n) (w : World) :
  Calls Tryz.prog 75 #[.int .i64 n, .int .i64 lo, .int .i64 hi] w fun e w' => e = .returned (.bool false) ∧ w = w' :=
 (c_l1In n lo hi w).mono fun e w' ⟨he, hw⟩ => ⟨by rw [he]; refine ret_bool ?_; simp; omega, hw.symm⟩
theorem take_snoc (s : ByteArray) (k : Nat) (h : k < s.size) : s.data.toList.take (k + 1) = s.data.toList.take k ++ [s[k]] := by
 rw [List.take_succ_eq_append_getElem (by simpa using h)]; rfl
theorem all_take_snoc (s : ByteArray) (k : Nat) (h : k < s.size) (p : UInt8 → Bool) : (s.data.toList.take (k + 1)).all p = ((s.data.toList.take k).all p && p s[k]) := by
 rw [take_snoc s k h, List.all_append]; simp
theorem all_of_take (s : ByteArray) (p : UInt8 → Bool) (h : (s.data.toList.take s.size).all p = true) : s.data.toList.all p = true := by
 rwa [List.take_of_length_le (by simp)] at h
theorem all_not (s : ByteArray) (k : Nat) (h : k < s.size) (p : UInt8 → Bool) (hp : p s[k] = false) : s.data.toList.all p = false := by
 rw [List.all_eq_false]; exact ⟨s[k], by simp [ByteArray.getElem_eq_getElem_data], by simpa using hp⟩
theorem head_at (s : ByteArray) (h : 0 < s.size) : headB s = lowB (s[0].toNat) := by
 have hl : 0 < s.data.toList.length := by simpa using h
 unfold headB
 rw [List.getD_eq_getElem?_getD, List.getElem?_eq_getElem hl]; rfl
theorem byte_class (c : Int) : c < 48 ∨ (48 ≤ c ∧ c ≤ 57) ∨ (57 < c ∧ c < 97) ∨ (97 ≤ c ∧ c ≤ 122) ∨ 122 < c := by omega
theorem good_no {c : Int} (h : c < 48 ∨ (57 < c ∧ c < 97) ∨ 122 < c) : goodB c = false := by unfold goodB lowB digB; simp; omega
theorem good_yes {c : Int} (h : (48 ≤ c ∧ c ≤ 57) ∨ (97 ≤ c ∧ c ≤ 122)) : (true && goodB c) = true := by unfold goodB lowB digB; simp; omega
theorem head_class (c : Int) : c < 97 ∨ (97 ≤ c ∧ c ≤ 122) ∨ 122 < c := by omega
theorem low_no {c : Int} (h : c < 97 ∨ 122 < c) : lowB c = false := by unfold lowB; simp; omega
theorem low_yes {c : Int} (h : 97 ≤ c) (h' : c ≤ 122) : lowB c = true := by unfold lowB; simp; omega
theorem c_l2Name (s : ByteArray) (hs : s.size ≤ maxLen) (w : World) :
  Calls Tryz.prog 207 #[.string s] w fun e w' => e = .returned (.bool (nameB s)) ∧ w = w' := by
 unfold maxLen at hs
 by_cases h : 1 ≤ s.size ∧ s.size ≤ 8
 ·have h1 := h.1; have h2 := h.2
  have hn' : nameB s = (lowB s[0].toNat && bytesB s) := by unfold nameB; rw [head_at s h1]; simp [h]
  have hn : Hid _ := hn'
  clear h hn'
  rcases head_class (s[0].toNat : Int) with hh | ⟨hh, hh'⟩ | hh
  ·go_enter Tryz.func207, Tryz.ntmps207
   go_wp2_with (go_at_call 75; refine (c_l1In_t _ _ _ (by omega) (by omega) _).mono ?_; rintro e w' ⟨rfl, rfl⟩)
   go_ret
   exact ⟨ret_bool (by go_light; rw [hn.out, low_no (.inl hh)]; rfl), rfl⟩
  ·have qa : decide ((s[0].toNat : Int) < 97) = false := by simp; omega
   have qb : decide (122 < (s[0].toNat : Int)) = false := by simp; omega
   go_enter Tryz.func207, Tryz.ntmps207
   go_wp2_with (go_at_call 75; refine (c_l1In_t _ _ _ (by omega) (by omega) _).mono ?_; rintro e w' ⟨rfl, rfl⟩)
   go_loop [3] (fun i => ∃ k : Nat, k ≤ s.size ∧ i = .int .i64 k ∧ (s.data.toList.take k).all (fun c => goodB c.toNat) = true) (fun i => s.size - (intOf i).toNat)
   case atStart => exact ⟨0, Nat.zero_le _, rfl, rfl⟩
   case round =>
    obtain ⟨k, hk, rfl, ha⟩ := hrel
    have HA : Hid _ := ha
    clear ha
    by_cases hlt : k < s.size
    ·have hts : Hid _ := all_take_snoc s k hlt (fun c => goodB c.toNat)
     have hno : Hid _ := all_not s k hlt (fun c => goodB c.toNat)
     rcases byte_class (s[k].toNat : Int) with hc | ⟨hc, hd⟩ | ⟨hc, hd⟩ | ⟨hc, hd⟩ | hc
     ·go_wp2
      go_ret
      refine ⟨ret_bool ?_, rfl⟩
      go_light
      have := hno.out (good_no (.inl hc))
      rw [hn.out]; unfold bytesB; rw [this]; simp
     ·go_wp2
      go_round
      case rel => exact ⟨k + 1, by omega, by go_num, by go_light; rw [hts.out, HA.out]; exact good_yes (.inl ⟨hc, hd⟩)⟩
      case measure => simp [intOf]; omega
     ·have q1 : decide ((s[k].toNat : Int) ≤ 57) = false := by simp; omega
      go_wp2
      go_ret
      refine ⟨ret_bool ?_, rfl⟩
      go_light
      have := hno.out (good_no (.inr (.inl ⟨hc, hd⟩)))
      rw [hn.out]; unfold bytesB; rw [this]; simp
     ·go_wp2
      go_round
      case rel => exact ⟨k + 1, by omega, by go_num, by go_light; rw [hts.out, HA.out]; exact good_yes (.inr ⟨hc, hd⟩)⟩
      case measure => simp [intOf]; omega
     ·have q1 : decide ((s[k].toNat : Int) ≤ 57) = false := by simp; omega
      have q2 : decide ((s[k].toNat : Int) ≤ 122) = false := by simp; omega
      go_wp2
      go_ret
      refine ⟨ret_bool ?_, rfl⟩
      go_light
      have := hno.out (good_no (.inr (.inr hc)))
      rw [hn.out]; unfold bytesB; rw [this]; simp
    ·have hke : k = s.size := by omega
     subst hke
     have hb : Hid (bytesB s = true) := all_of_take s _ HA.out
     clear HA
     go_wp2
     go_ret
     exact ⟨ret_bool (by go_light; rw [hn.out, hb.out]; rw [low_yes hh hh']; rfl), rfl⟩
  ·have qa : decide ((s[0].toNat : Int) < 97) = false := by simp; omega
   go_enter Tryz.func207, Tryz.ntmps207
   go_wp2_with (go_at_call 75; refine (c_l1In_t _ _ _ (by omega) (by omega) _).mono ?_; rintro e w' ⟨rfl, rfl⟩)
   go_ret
   exact ⟨ret_bool (by go_light; rw [hn.out, low_no (.inr hh)]; rfl), rfl⟩
 ·have hn' : nameB s = false := by unfold nameB; simp [h]
  have hn : Hid _ := hn'
  clear hn'
  go_enter Tryz.func207, Tryz.ntmps207
  go_wp2_with (go_at_call 75; refine (c_l1In_f _ _ _ (by omega) _).mono ?_; rintro e w' ⟨rfl, rfl⟩)
  go_ret
  exact ⟨ret_bool hn.out.symm, rfl⟩
theorem nameB_no_digit {s : ByteArray} (h1 : 1 ≤ s.size) (h2 : s.size ≤ 8) (hd : digB s[0].toNat = true) : nameB s = false := by
 unfold nameB; rw [head_at s h1]
 unfold digB at hd; simp at hd
 unfold lowB; simp; intros; omega
theorem nameB_bytes {s : ByteArray} (h1 : 1 ≤ s.size) (h2 : s.size ≤ 8) (hd : digB s[0].toNat = false) : nameB s = bytesB s := by
 unfold nameB; rw [head_at s h1]
 by_cases hb : bytesB s = true
 ·have hg : goodB s[0].toNat = true := by
   unfold bytesB at hb; rw [List.all_eq_true] at hb
   exact hb s[0] (by simp [ByteArray.getElem_eq_getElem_data])
  unfold goodB at hg; rw [hd] at hg
  rw [hb]; simp at hg; simp [hg, h1, h2]
 ·simp at hb; rw [hb]; simp
theorem c_nameOk (s : ByteArray) (hs : s.size ≤ maxLen) (w : World) :
  Calls Tryz.prog 238 #[.string s] w fun e w' => e = .returned (.bool (nameB s)) ∧ w = w' := by
 unfold maxLen at hs
 by_cases h : 1 ≤ s.size ∧ s.size ≤ 8
 ·have h1 := h.1; have h2 := h.2
  clear h
  by_cases hd : digB s[0].toNat = true
  ·have hn' := nameB_no_digit h1 h2 hd
   have hn : Hid _ := hn'
   clear hn'
   go_enter Tryz.func238, Tryz.ntmps238
   go_wp2_with (go_at_call 242; refine (c_isDigit _ _).mono ?_; rintro e w' ⟨rfl, rfl⟩)
   go_ret
   exact ⟨ret_bool hn.out.symm, rfl⟩
  ·have hd' : digB s[0].toNat = false := by simpa using hd
   have hn' := nameB_bytes h1 h2 hd'
   have hn : Hid _ := hn'
   clear hn' hd
   go_enter Tryz.func238, Tryz.ntmps238
   go_wp2_with (go_at_call 242; refine (c_isDigit _ _).mono ?_; rintro e w' ⟨rfl, rfl⟩)
   go_loop [19] (fun i => ∃ k : Nat, k ≤ s.size ∧ i = .int .i64 k ∧ (s.data.toList.take k).all (fun c => goodB c.toNat) = true) (fun i => s.size - (intOf i).toNat)
   case atStart => exact ⟨0, Nat.zero_le _, rfl, rfl⟩
   case round =>
    obtain ⟨k, hk, rfl, ha⟩ := hrel
    have HA : Hid _ := ha
    clear ha
    by_cases hlt : k < s.size
    ·have hts : Hid _ := all_take_snoc s k hlt (fun c => goodB c.toNat)
     have hno : Hid _ := all_not s k hlt (fun c => goodB c.toNat)
     by_cases hl : lowB s[k].toNat = true
     ·go_wp2_with (first | (go_at_call 242; refine (c_isDigit _ _).mono ?_; rintro e w' ⟨rfl, rfl⟩) | (go_at_call 243; refine (c_isLetter _ _).mono ?_; rintro e w' ⟨rfl, rfl⟩))
      go_round
      case rel => exact ⟨k + 1, by omega, by go_num, by go_light; rw [hts.out, HA.out]; unfold goodB; rw [hl]; rfl⟩
      case measure => simp [intOf]; omega
     ·have hl' : lowB s[k].toNat = false := by simpa using hl
      clear hl
      by_cases hg : digB s[k].toNat = true
      ·go_wp2_with (first | (go_at_call 242; refine (c_isDigit _ _).mono ?_; rintro e w' ⟨rfl, rfl⟩) | (go_at_call 243; refine (c_isLetter _ _).mono ?_; rintro e w' ⟨rfl, rfl⟩))
       go_round
       case rel => exact ⟨k + 1, by omega, by go_num, by go_light; rw [hts.out, HA.out]; unfold goodB; rw [hl', hg]; rfl⟩
       case measure => simp [intOf]; omega
      ·have hg' : digB s[k].toNat = false := by simpa using hg
       clear hg
       go_wp2_with (first | (go_at_call 242; refine (c_isDigit _ _).mono ?_; rintro e w' ⟨rfl, rfl⟩) | (go_at_call 243; refine (c_isLetter _ _).mono ?_; rintro e w' ⟨rfl, rfl⟩))
       go_ret
       refine ⟨ret_bool ?_, rfl⟩
       go_light
       have := hno.out (by unfold goodB; rw [hl', hg']; rfl)
       rw [hn.out]; unfold bytesB; rw [this]
    ·have hke : k = s.size := by omega
     subst hke
     have hb : Hid (bytesB s = true) := all_of_take s _ HA.out
     clear HA
     go_wp2
     go_ret
     exact ⟨ret_bool (by go_light; rw [hn.out, hb.out]), rfl⟩
 ·have hn' : nameB s = false := by unfold nameB; simp [h]
  have hn : Hid _ := hn'
  clear hn'
  by_cases h0 : s.size < 1
  ·go_enter Tryz.func238, Tryz.ntmps238
   go_wp2_with fail
   go_ret
   exact ⟨ret_bool hn.out.symm, rfl⟩
  ·have h8 : 8 < s.size := by omega
   clear h
   go_enter Tryz.func238, Tryz.ntmps238
   go_wp2_with fail
   go_ret
   exact ⟨ret_bool hn.out.symm, rfl⟩
end Go.Proofs.YtlcgimadbpagfaaGreat
namespace Go.Proofs.YtlcgimadbpagfaaGreat
open Go.Lib
open Go.ChangeShapes Go.WideShapes Go.ChangeAt Go.RowKit
set_option linter.unusedVariables false
set_option maxRecDepth 100000
def propOk1 (ns : List ND) (p : Int) : Prop := 0 ≤ p ∧ p < ns.length ∧ sortAt ns p = (0, 1)
def propsOk (ns : List ND) (ps : List Int) : Prop := ∀ t, t < ps.length → propOk1 ns (ps.getD t 0)
theorem node_sort {B : Nat} {w : World} {a : Option Addr} {len cap q : Nat} {ns : List ND} (h : NodesAt B w a len cap ns) (hk : q < len) :
  ∃ (si sw : Int) (b off : Nat), sortAt ns q = (si, sw) ∧ a = some ⟨b, off, none⟩ ∧ b < B ∧ w.cell? ⟨b, off + q * 9 + 6, none⟩ = some (.int .i64 si) ∧ w.cell? ⟨b, off + q * 9 + 7, none⟩ = some (.int .i64 sw) := by
 obtain ⟨nd, hk', b, off, hnd, hok, ha, hbB, hc⟩ := node_at h hk
 have hg : ns.getD q default = ns[q] := by simp [List.getD, hk']
 exact ⟨nd.si, nd.sw, b, off, by unfold sortAt; rw [Int.toNat_natCast, hg, hnd], ha, hbB, hc 6 (by decide), hc 7 (by decide)⟩
set_option maxHeartbeats 8000000 in
theorem c_l2Props {B : Nat} {s0 s1 s2 s3 s4 : SL} {M : MD} {a : Option Addr} {len cap : Nat} {ps : List Int} (w : World) (hBw : B ≤ w.heap.size) (h : ModelAt B w s0 s1 s2 s3 s4 M) (hp : IntsAt B w a len cap ps) :
  Calls Tryz.prog 120 #[.agg (mcells s0 s1 s2 s3 s4).toArray, .slice a len cap] w fun e w' => BoolIs (propsOk M.ns ps) e ∧ Below w.heap.size w w' := by
 have HN := hid h.ns
 have HP := hid hp
 have hl0 : M.ns.length = s0.len := h.ns.1
 have hlp : ps.length = len := hp.1
 have hm := Nat.le_trans h.ns.2.1 h.ns.2.2.1
 have hm2 := Nat.le_trans hp.2.1 hp.2.2.1
 unfold maxLen at hm hm2
 clear h hp
 obtain ⟨a0, l0, p0⟩ := s0
 simp only [mcells] at *
 go_enter Tryz.func120, Tryz.ntmps120
 go_wp2_with fail
 go_loopw [5] (fun i wr => ∃ k : Nat, k ≤ len ∧ i = .int .i64 k ∧ (∀ t, t < k → propOk1 M.ns (ps.getD t 0)) ∧ Boxed ⟨a0, l0, p0⟩ s1 s2 s3 s4 w wr) (fun i _ => len - (intOf i).toNat)
 case atStart => exact ⟨0, by omega, rfl, fun t h => by omega, Boxed.new _ _ _ _ _ _ _⟩
 case round =>
  obtain ⟨k, hk, rfl, hno, HX0⟩ := hrel
  have HNO := hid hno
  have HXR := hid HX0
  obtain ⟨hlt, b0, -, -, -, -, hBk⟩ := HX0
  have HB := hid hBk
  clear hno hBk
  by_cases hkl : k < len
  ·have hki : (k : Int) < len := by omega
   obtain ⟨p, b, off, hpe, hpf, rfl, hbB, c0⟩ := int_at (HP.out.below (HB.out.mono hBw)) hkl
   have hbr : b < wr.heap.size := Nat.lt_of_lt_of_le hbB (Nat.le_trans hBw HB.out.size)
   have hwl : wrap64 ((l0 : Int) - 1) = (l0 : Int) - 1 := IntWalk.wrap64_in _ (by omega)
   have hwl2 : IntKind.i64.wrap ((l0 : Int) - 1) = (l0 : Int) - 1 := (IntWalk.i64_left _).trans hwl
   by_cases hpr : p < 0 ∨ (l0 : Int) - 1 < p
   ·have HNP := hid (show ¬ propOk1 M.ns (ps.getD k 0) by rintro ⟨h1, h2, _⟩; rw [hpe] at h1 h2; omega)
    clear hpe
    go_wp2_with fail
    refine wp_region_held_drew (S := (fun w' => w'.cell? ⟨w.heap.size, 0, none⟩ = some (.slice a0 l0 p0) ∧ w'.cell? ⟨b, off + k, none⟩ = some (.int .i64 p))) (by kernel_rfl) ?_ (fun hHeld => ?_)
    ·exact ⟨keepc (by go_grown) hlt b0, keepc (by go_grown) hbr c0⟩
    refine tL 0 (some 12) ?_
    refine tL 1 (some 13) ?_
    refine tL 2 (some 14) ?_
    refine tL 3 (some 15) ?_
    refine tL 4 (some 16) ?_
    refine tL 5 (some 17) ?_
    refine tL 6 (some 18) ?_
    refine tL 7 (some 19) ?_
    refine wpAnyH_ready (rs := [8]) (by kernel_rfl) (by simp) ?_
    refine .cons (o := _) rfl (fun K hK => ?_) .nil
    go_simp
    refine (c_l1In_f _ _ _ hpr _).mono ?_; rintro e w' ⟨rfl, rfl⟩
    (try go_wp2_with fail)
    (try clear hHeld)
    refine hK.out _ _ ?_ (fun hHeld => ?_)
    ·exact ⟨keepc (by go_grown) hlt b0, keepc (by go_grown) hbr c0⟩
    clear hK K
    (try simp only [Act.put, zq1, zq2, zq3])
    refine tL 9 (some 21) ?_
    refine tL 10 (some 22) ?_
    refine tU 11 (some 23) ?_
    refine tU 12 (some 24) ?_
    refine tU 13 (some 25) ?_
    refine tU 14 (some 26) ?_
    refine tU 15 (some 27) ?_
    refine tU 16 (some 28) ?_
    refine tU 17 (some 29) ?_
    refine tU 18 (some 30) ?_
    refine tU 19 (some 31) ?_
    refine tU 20 (some 32) ?_
    refine tU 21 (some 33) ?_
    refine tL 22 (some 34) ?_
    refine wpAnyH_done (by kernel_rfl) ?_ _
    go_wp2_with fail
    go_ret
    exact ⟨BoolIs.no (fun h => HNP.out (h k (by omega))), below_drew (HB.out.trans (by go_grown))⟩
   ·obtain ⟨q, rfl⟩ : ∃ q : Nat, p = q := ⟨p.toNat, by omega⟩
    have hq0 : (0 : Int) ≤ q := by omega
    have hq1 : (q : Int) ≤ (l0 : Int) - 1 := by omega
    have hql : (q : Int) < l0 := by omega
    obtain ⟨si, sw, bn, on, hse, rfl, hbnB, n6, n7⟩ := node_sort ((HN.out.rows.below (HB.out.mono hBw)).nodes) (show q < l0 by omega)
    have hbn : bn < wr.heap.size := Nat.lt_of_lt_of_le hbnB (Nat.le_trans hBw HB.out.size)
    have HSE := hid hse
    have HPE := hid hpe
    clear hse hpe
    by_cases h1 : si = 0
    ·subst h1
     by_cases h2 : sw = 1
     ·subst h2
      have HYES := hid (show ∀ t, t < k + 1 → propOk1 M.ns (ps.getD t 0) from fun t ht => by
       rcases Nat.lt_or_ge t k with h | h
       ·exact HNO.out t h
       ·obtain rfl : t = k := by omega
        rw [HPE.out]; exact ⟨by omega, by omega, HSE.out⟩)
      go_wp2_with fail
      refine wp_region_held_drew (S := (fun w' => w'.cell? ⟨w.heap.size, 0, none⟩ = some (.slice (some ⟨bn, on, none⟩) l0 p0) ∧ w'.cell? ⟨b, off + k, none⟩ = some (.int .i64 q) ∧ w'.cell? ⟨bn, on + q * 9 + 6, none⟩ = some (.int .i64 0) ∧ w'.cell? ⟨bn, on + q * 9 + 7, none⟩ = some (.int .i64 1))) (by kernel_rfl) ?_ (fun hHeld => ?_)
      ·exact ⟨keepc (by go_grown) hlt b0, keepc (by go_grown) hbr c0, keepc (by go_grown) hbn n6, keepc (by go_grown) hbn n7⟩
      refine tL 0 (some 12) ?_
      refine tL 1 (some 13) ?_
      refine tL 2 (some 14) ?_
      refine tL 3 (some 15) ?_
      refine tL 4 (some 16) ?_
      refine tL 5 (some 17) ?_
      refine tL 6 (some 18) ?_
      refine tL 7 (some 19) ?_
      refine wpAnyH_ready (rs := [8]) (by kernel_rfl) (by simp) ?_
      refine .cons (o := _) rfl (fun K hK => ?_) .nil
      go_simp
      refine (c_l1In_t _ _ _ hq0 hq1 _).mono ?_; rintro e w' ⟨rfl, rfl⟩
      (try go_wp2_with fail)
      (try clear hHeld)
      refine hK.out _ _ ?_ (fun hHeld => ?_)
      ·exact ⟨keepc (by go_grown) hlt b0, keepc (by go_grown) hbr c0, keepc (by go_grown) hbn n6, keepc (by go_grown) hbn n7⟩
      clear hK K
      (try simp only [Act.put, zq1, zq2, zq3])
      refine tL 9 (some 21) ?_
      refine tL 10 (some 22) ?_
      refine tL 11 (some 23) ?_
      refine tL 12 (some 24) ?_
      refine tL 13 (some 25) ?_
      refine tL 14 (some 26) ?_
      refine tL 15 (some 27) ?_
      refine tL 16 (some 28) ?_
      refine tL 17 (some 29) ?_
      refine tL 18 (some 30) ?_
      refine tL 19 (some 31) ?_
      refine wpAnyH_ready (rs := [20]) (by kernel_rfl) (by simp) ?_
      refine .cons (o := _) rfl (fun K hK => ?_) .nil
      go_simp
      refine (c_l2Word _ _).mono ?_; rintro e w' ⟨rfl, rfl⟩
      (try go_wp2_with fail)
      (try clear hHeld)
      refine hK.out _ _ ?_ (fun hHeld => ?_)
      ·exact ⟨keepc (by go_grown) hlt b0, keepc (by go_grown) hbr c0, keepc (by go_grown) hbn n6, keepc (by go_grown) hbn n7⟩
      clear hK K
      (try simp only [Act.put, zq1, zq2, zq3])
      refine tL 21 (some 33) ?_
      refine tL 22 (some 34) ?_
      refine wpAnyH_done (by kernel_rfl) ?_ _
      go_wp2_with fail
      go_roundw
      case rel => exact ⟨k + 1, by omega, by go_num, HYES.out, HXR.out.below (by go_grown)⟩
      case measure => simp [intOf]; omega
     ·have q2 : (sw == 1) = false := by simpa using h2
      have HNP := hid (show ¬ propOk1 M.ns (ps.getD k 0) by rintro ⟨_, _, h3⟩; rw [HPE.out, HSE.out] at h3; exact h2 (by simpa using h3))
      go_wp2_with fail
      refine wp_region_held_drew (S := (fun w' => w'.cell? ⟨w.heap.size, 0, none⟩ = some (.slice (some ⟨bn, on, none⟩) l0 p0) ∧ w'.cell? ⟨b, off + k, none⟩ = some (.int .i64 q) ∧ w'.cell? ⟨bn, on + q * 9 + 6, none⟩ = some (.int .i64 0) ∧ w'.cell? ⟨bn, on + q * 9 + 7, none⟩ = some (.int .i64 sw))) (by kernel_rfl) ?_ (fun hHeld => ?_)
      ·exact ⟨keepc (by go_grown) hlt b0, keepc (by go_grown) hbr c0, keepc (by go_grown) hbn n6, keepc (by go_grown) hbn n7⟩
      refine tL 0 (some 12) ?_
      refine tL 1 (some 13) ?_
      refine tL 2 (some 14) ?_
      refine tL 3 (some 15) ?_
      refine tL 4 (some 16) ?_
      refine tL 5 (some 17) ?_
      refine tL 6 (some 18) ?_
      refine tL 7 (some 19) ?_
      refine wpAnyH_ready (rs := [8]) (by kernel_rfl) (by simp) ?_
      refine .cons (o := _) rfl (fun K hK => ?_) .nil
      go_simp
      refine (c_l1In_t _ _ _ hq0 hq1 _).mono ?_; rintro e w' ⟨rfl, rfl⟩
      (try go_wp2_with fail)
      (try clear hHeld)
      refine hK.out _ _ ?_ (fun hHeld => ?_)
      ·exact ⟨keepc (by go_grown) hlt b0, keepc (by go_grown) hbr c0, keepc (by go_grown) hbn n6, keepc (by go_grown) hbn n7⟩
      clear hK K
      (try simp only [Act.put, zq1, zq2, zq3])
      refine tL 9 (some 21) ?_
      refine tL 10 (some 22) ?_
      refine tL 11 (some 23) ?_
      refine tL 12 (some 24) ?_
      refine tL 13 (some 25) ?_
      refine tL 14 (some 26) ?_
      refine tL 15 (some 27) ?_
      refine tL 16 (some 28) ?_
      refine tL 17 (some 29) ?_
      refine tL 18 (some 30) ?_
      refine tL 19 (some 31) ?_
      refine wpAnyH_ready (rs := [20]) (by kernel_rfl) (by simp) ?_
      refine .cons (o := _) rfl (fun K hK => ?_) .nil
      go_simp
      refine (c_l2Word _ _).mono ?_; rintro e w' ⟨rfl, rfl⟩
      (try go_wp2_with fail)
      (try clear hHeld)
      refine hK.out _ _ ?_ (fun hHeld => ?_)
      ·exact ⟨keepc (by go_grown) hlt b0, keepc (by go_grown) hbr c0, keepc (by go_grown) hbn n6, keepc (by go_grown) hbn n7⟩
      clear hK K
      (try simp only [Act.put, zq1, zq2, zq3])
      refine tL 21 (some 33) ?_
      refine tL 22 (some 34) ?_
      refine wpAnyH_done (by kernel_rfl) ?_ _
      go_wp2_with fail
      go_ret
      exact ⟨BoolIs.no (fun h => HNP.out (h k (by omega))), below_drew (HB.out.trans (by go_grown))⟩
    ·have q2 : (si == 0) = false := by simpa using h1
     have HNP := hid (show ¬ propOk1 M.ns (ps.getD k 0) by rintro ⟨_, _, h3⟩; rw [HPE.out, HSE.out] at h3; simp only [Prod.mk.injEq] at h3; exact h1 h3.1)
     go_wp2_with fail
     refine wp_region_held_drew (S := (fun w' => w'.cell? ⟨w.heap.size, 0, none⟩ = some (.slice (some ⟨bn, on, none⟩) l0 p0) ∧ w'.cell? ⟨b, off + k, none⟩ = some (.int .i64 q) ∧ w'.cell? ⟨bn, on + q * 9 + 6, none⟩ = some (.int .i64 si) ∧ w'.cell? ⟨bn, on + q * 9 + 7, none⟩ = some (.int .i64 sw))) (by kernel_rfl) ?_ (fun hHeld => ?_)
     ·exact ⟨keepc (by go_grown) hlt b0, keepc (by go_grown) hbr c0, keepc (by go_grown) hbn n6, keepc (by go_grown) hbn n7⟩
     refine tL 0 (some 12) ?_
     refine tL 1 (some 13) ?_
     refine tL 2 (some 14) ?_
     refine tL 3 (some 15) ?_
     refine tL 4 (some 16) ?_
     refine tL 5 (some 17) ?_
     refine tL 6 (some 18) ?_
     refine tL 7 (some 19) ?_
     refine wpAnyH_ready (rs := [8]) (by kernel_rfl) (by simp) ?_
     refine .cons (o := _) rfl (fun K hK => ?_) .nil
     go_simp
     refine (c_l1In_t _ _ _ hq0 hq1 _).mono ?_; rintro e w' ⟨rfl, rfl⟩
     (try go_wp2_with fail)
     (try clear hHeld)
     refine hK.out _ _ ?_ (fun hHeld => ?_)
     ·exact ⟨keepc (by go_grown) hlt b0, keepc (by go_grown) hbr c0, keepc (by go_grown) hbn n6, keepc (by go_grown) hbn n7⟩
     clear hK K
     (try simp only [Act.put, zq1, zq2, zq3])
     refine tL 9 (some 21) ?_
     refine tL 10 (some 22) ?_
     refine tL 11 (some 23) ?_
     refine tL 12 (some 24) ?_
     refine tL 13 (some 25) ?_
     refine tL 14 (some 26) ?_
     refine tL 15 (some 27) ?_
     refine tL 16 (some 28) ?_
     refine tL 17 (some 29) ?_
     refine tL 18 (some 30) ?_
     refine tL 19 (some 31) ?_
     refine wpAnyH_ready (rs := [20]) (by kernel_rfl) (by simp) ?_
     refine .cons (o := _) rfl (fun K hK => ?_) .nil
     go_simp
     refine (c_l2Word _ _).mono ?_; rintro e w' ⟨rfl, rfl⟩
     (try go_wp2_with fail)
     (try clear hHeld)
     refine hK.out _ _ ?_ (fun hHeld => ?_)
     ·exact ⟨keepc (by go_grown) hlt b0, keepc (by go_grown) hbr c0, keepc (by go_grown) hbn n6, keepc (by go_grown) hbn n7⟩
     clear hK K
     (try simp only [Act.put, zq1, zq2, zq3])
     refine tL 21 (some 33) ?_
     refine tL 22 (some 34) ?_
     refine wpAnyH_done (by kernel_rfl) ?_ _
     go_wp2_with fail
     go_ret
     exact ⟨BoolIs.no (fun h => HNP.out (h k (by omega))), below_drew (HB.out.trans (by go_grown))⟩
  ·have hki : ¬ (k : Int) < len := by omega
   go_wp2_with fail
   go_ret
   exact ⟨BoolIs.yes (fun t ht => HNO.out t (by omega)), HB.out⟩
end Go.Proofs.YtlcgimadbpagfaaGreat
