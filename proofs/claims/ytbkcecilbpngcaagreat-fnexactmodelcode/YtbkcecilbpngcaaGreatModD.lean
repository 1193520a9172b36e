
/-
  Models as data: slices of nodes, of binds and of numbers in memory; read off an argument's reading.
-/
import Derived.Test.YtbkcecilbpngcaaGreatRows
import Derived.Test.YtbkcecilbpngcaaGreatG0
import Derived.Test.YtbkcecilbpngcaaGreatPaA
import Derived.WalkKit
import Derived.ProofKit
import Derived.OpenShut
import Derived.WalkSpells
import Derived.WalkLawsBesides
import Derived.Outline
import Derived.BigQuiet
import Derived.Deep.Slices
import Derived.Lib.SmallJoins
namespace Go.Proofs.YtbkcecilbpngcaaGreat
open Go.ChangeShapes Go.WideShapes Go.ChangeAt Go.RowKit
set_option linter.unusedVariables false
set_option maxRecDepth 100000

/-- A bind. -/
structure BD where
  st : Int
  nd : Int
instance : Inhabited BD := ⟨⟨0, 0⟩⟩
def BD.cells (x : BD) : List Value := [.int .i64 x.st, .int .i64 x.nd]
def BD.ok (x : BD) : Prop := fits x.st ∧ fits x.nd
theorem RowsAt.nodes {B : Nat} {w : World} {a : Option Addr} {len cap : Nat} {ns : List ND} (h : RowsAt ND.cells ND.ok 9 B w a len cap ns) : NodesAt B w a len cap ns := h
abbrev BindsAt := RowsAt BD.cells BD.ok 2
/-- A model. -/
structure MD where
  ns : List ND
  is : List BD
  xs : List BD
  bads : List Int
  holds : List Int
structure ModelAt (B : Nat) (w : World) (s0 s1 s2 s3 s4 : SL) (M : MD) : Prop where
  ns : NodesAt B w s0.a s0.len s0.cap M.ns
  is : BindsAt B w s1.a s1.len s1.cap M.is
  xs : BindsAt B w s2.a s2.len s2.cap M.xs
  bads : IntsAt B w s3.a s3.len s3.cap M.bads
  holds : IntsAt B w s4.a s4.len s4.cap M.holds
def mcells (s0 s1 s2 s3 s4 : SL) : List Value := [.slice s0.a s0.len s0.cap, .slice s1.a s1.len s1.cap, .slice s2.a s2.len s2.cap, .slice s3.a s3.len s3.cap, .slice s4.a s4.len s4.cap]
theorem NodesAt.rows {B : Nat} {w : World} {a : Option Addr} {len cap : Nat} {ns : List ND} (h : NodesAt B w a len cap ns) : RowsAt ND.cells ND.ok 9 B w a len cap ns := h
theorem ModelAt.below {B : Nat} {w w' : World} {s0 s1 s2 s3 s4 : SL} {M : MD} (h : ModelAt B w s0 s1 s2 s3 s4 M) (hb : Below B w w') : ModelAt B w' s0 s1 s2 s3 s4 M :=
  ⟨(h.ns.rows.below hb).nodes, h.is.below hb, h.xs.below hb, h.bads.below hb, h.holds.below hb⟩
theorem ModelAt.mono {B B' : Nat} {w : World} {s0 s1 s2 s3 s4 : SL} {M : MD} (h : ModelAt B w s0 s1 s2 s3 s4 M) (hB : B ≤ B') : ModelAt B' w s0 s1 s2 s3 s4 M :=
  ⟨(h.ns.rows.mono hB).nodes, h.is.mono hB, h.xs.mono hB, h.bads.mono hB, h.holds.mono hB⟩

section
variable {H : Type} {enc : TypeId × Value → H} {w : World}
theorem open_bind {base : Nat} {spare : Nat → Bool} {held : Bool} {fuel : Nat} {cs : List Value} {x : DataW H × List MemPlace} (h : DataW.trod enc Tryz.prog w base spare held fuel 86 cs = some x) : ∃ nd : BD, cs = nd.cells ∧ nd.ok := by
  obtain ⟨xs, n, _, rfl, hl, hlen, hf⟩ := DataW.trod_struct Tryz.underlying86 h
  have hc : Tryz.prog.cellsOf 86 = 2 := by kernel_rfl
  rw [hc] at hl
  have k1 : Tryz.prog.cellsOf 3 = 1 := by kernel_rfl
  match cs, hl, xs, hlen with
  | [c0, c1], _, [y0, y1], _ =>
    have f0 := hf 0 _ rfl
    have f1 := hf 1 _ rfl
    simp [k1] at f0 f1
    obtain ⟨v0, e0, _, o0⟩ := DataW.trod_int Tryz.underlying3 f0
    obtain ⟨v1, e1, _, o1⟩ := DataW.trod_int Tryz.underlying3 f1
    simp at e0 e1
    subst e0 e1
    exact ⟨⟨v0, v1⟩, rfl, o0, o1⟩
theorem open_model {v : Value} {d : DataW H} {p : List MemPlace} {b0 : Nat} (hv : Value.okWide Tryz.prog w .any b0 26 v) (h : DataW.Trod enc Tryz.prog w 0 (fun _ => true) true 26 v d p) :
    ∃ s0 s1 s2 s3 s4 M, v = .agg (mcells s0 s1 s2 s3 s4).toArray ∧ ModelAt w.heap.size w s0 s1 s2 s3 s4 M := by
  obtain ⟨cs, rfl, _⟩ := okWide_struct Tryz.underlying26 hv
  obtain ⟨fuel, h⟩ := h
  simp only [Value.cells] at h
  obtain ⟨xs, n, _, _, hl, hlen, hf⟩ := DataW.trod_struct Tryz.underlying26 h
  have hc : Tryz.prog.cellsOf 26 = 5 := by kernel_rfl
  rw [hc] at hl
  have k1 : Tryz.prog.cellsOf 22 = 1 := by kernel_rfl
  have k2 : Tryz.prog.cellsOf 23 = 1 := by kernel_rfl
  have k3 : Tryz.prog.cellsOf 24 = 1 := by kernel_rfl
  obtain ⟨cs⟩ := cs
  simp only at hl hf
  match cs, hl, xs, hlen with
  | [c0, c1, c2, c3, c4], _, [y0, y1, y2, y3, y4], _ =>
    have f0 := hf 0 _ rfl
    have f1 := hf 1 _ rfl
    have f2 := hf 2 _ rfl
    have f3 := hf 3 _ rfl
    have f4 := hf 4 _ rfl
    simp [k1, k2, k3] at f0 f1 f2 f3 f4
    obtain ⟨s0, M0, e0, r0⟩ := open_rows (cells := ND.cells) (ok := ND.ok) (c := 9) Tryz.underlying22 (by kernel_rfl) (fun h => open_node h) (fun nd => ⟨_, rfl⟩) (by decide) f0
    obtain ⟨s1, M1, e1, r1⟩ := open_rows (cells := BD.cells) (ok := BD.ok) (c := 2) Tryz.underlying23 (by kernel_rfl) (fun h => open_bind h) (fun nd => ⟨_, rfl⟩) (by decide) f1
    obtain ⟨s2, M2, e2, r2⟩ := open_rows (cells := BD.cells) (ok := BD.ok) (c := 2) Tryz.underlying23 (by kernel_rfl) (fun h => open_bind h) (fun nd => ⟨_, rfl⟩) (by decide) f2
    obtain ⟨s3, M3, e3, r3⟩ := open_rows (cells := intCells) (ok := fits) (c := 1) Tryz.underlying24 (by kernel_rfl) (fun h => open_int h) (fun nd => ⟨_, rfl⟩) (by decide) f3
    obtain ⟨s4, M4, e4, r4⟩ := open_rows (cells := intCells) (ok := fits) (c := 1) Tryz.underlying24 (by kernel_rfl) (fun h => open_int h) (fun nd => ⟨_, rfl⟩) (by decide) f4
    simp at e0 e1 e2 e3 e4
    subst e0 e1 e2 e3 e4
    exact ⟨s0, s1, s2, s3, s4, ⟨M0, M1, M2, M3, M4⟩, rfl, ⟨r0, r1, r2, r3, r4⟩⟩
end
end Go.Proofs.YtbkcecilbpngcaaGreat
