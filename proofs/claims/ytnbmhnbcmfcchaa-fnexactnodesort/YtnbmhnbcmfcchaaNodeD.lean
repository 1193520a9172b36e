/-
  Nodes as data: what a struct of a node, and a slice of such, is in memory; read off an argument's reading.
-/
import Derived.Test.YtnbmhnbcmfcchaaRows
import Derived.Test.YtnbmhnbcmfcchaaMath
import Derived.Test.YtnbmhnbcmfcchaaBase
import Derived.WalkKit
import Derived.ProofKit
import Derived.OpenShut
import Derived.WalkSpells
import Derived.WalkLawsBesides
import Derived.Outline
import Derived.BigQuiet
import Derived.Deep.Slices
import Derived.Lib.SmallJoins
namespace Go.Proofs.Ytnbmhnbcmfcchaa
open Go.ChangeShapes Go.WideShapes Go.ChangeAt Go.RowKit
set_option linter.unusedVariables false

/-- A node's fields. -/
structure ND where
  kind : Int
  a : Int
  b : Int
  c : Int
  n : Int
  m : Int
  si : Int
  sw : Int
  name : ByteArray
instance : Inhabited ND := ⟨⟨0, 0, 0, 0, 0, 0, 0, 0, ByteArray.empty⟩⟩
/-- .. as cells, in order. -/
def ND.cells (x : ND) : List Value := [.int .i64 x.kind, .int .i64 x.a, .int .i64 x.b, .int .i64 x.c, .int .i64 x.n, .int .i64 x.m, .int .i64 x.si, .int .i64 x.sw, .string x.name]
/-- Each number fits, and the name is no longer than a string may be. -/
def fits (n : Int) : Prop := (Lit.int .i64 n).wf = true
def ND.ok (x : ND) : Prop := fits x.kind ∧ fits x.a ∧ fits x.b ∧ fits x.c ∧ fits x.n ∧ fits x.m ∧ fits x.si ∧ fits x.sw ∧ x.name.size ≤ maxLen

section
variable {H : Type} {enc : TypeId × Value → H} {w : World} {base : Nat} {spare : Nat → Bool} {held : Bool}
theorem open_node {fuel : Nat} {cs : List Value} {x : DataW H × List MemPlace} (h : DataW.trod enc Try.prog w base spare held fuel 31 cs = some x) : ∃ nd : ND, cs = nd.cells ∧ nd.ok := by
  obtain ⟨xs, n, _, rfl, hl, hlen, hf⟩ := DataW.trod_struct Try.underlying31 h
  have hc : Try.prog.cellsOf 31 = 9 := by kernel_rfl
  rw [hc] at hl
  have k1 : Try.prog.cellsOf 3 = 1 := by kernel_rfl
  have k2 : Try.prog.cellsOf 23 = 2 := by kernel_rfl
  have k3 : Try.prog.cellsOf 9 = 1 := by kernel_rfl
  match cs, hl, xs, hlen with
  | [c0, c1, c2, c3, c4, c5, c6, c7, c8], _, [y0, y1, y2, y3, y4, y5, y6, y7], _ =>
    have f0 := hf 0 _ rfl
    have f1 := hf 1 _ rfl
    have f2 := hf 2 _ rfl
    have f3 := hf 3 _ rfl
    have f4 := hf 4 _ rfl
    have f5 := hf 5 _ rfl
    have f6 := hf 6 _ rfl
    have f7 := hf 7 _ rfl
    simp [k1, k2, k3] at f0 f1 f2 f3 f4 f5 f6 f7
    obtain ⟨v0, e0, _, o0⟩ := DataW.trod_int Try.underlying3 f0
    obtain ⟨v1, e1, _, o1⟩ := DataW.trod_int Try.underlying3 f1
    obtain ⟨v2, e2, _, o2⟩ := DataW.trod_int Try.underlying3 f2
    obtain ⟨v3, e3, _, o3⟩ := DataW.trod_int Try.underlying3 f3
    obtain ⟨v4, e4, _, o4⟩ := DataW.trod_int Try.underlying3 f4
    obtain ⟨v5, e5, _, o5⟩ := DataW.trod_int Try.underlying3 f5
    obtain ⟨z0, z1, n', _, _, g0, g1⟩ := trod_struct2 Try.underlying23 f6
    simp [k1] at g0 g1
    obtain ⟨v6, e6, _, o6⟩ := DataW.trod_int Try.underlying3 g0
    obtain ⟨v7, e7, _, o7⟩ := DataW.trod_int Try.underlying3 g1
    obtain ⟨v8, e8, _, o8⟩ := DataW.trod_string Try.underlying9 f7
    simp at e0 e1 e2 e3 e4 e5 e6 e7 e8
    subst e0 e1 e2 e3 e4 e5 e6 e7 e8
    exact ⟨⟨v0, v1, v2, v3, v4, v5, v6, v7, v8⟩, rfl, o0, o1, o2, o3, o4, o5, o6, o7, o8⟩

/-- A slice of nodes lies below B: its cells are those of the nodes, in order. -/
def NodesAt (B : Nat) (w : World) (a : Option Addr) (len cap : Nat) (ns : List ND) : Prop :=
  ns.length = len ∧ len ≤ cap ∧ cap ≤ maxLen ∧ (∀ x ∈ ns, x.ok) ∧ (a = none → cap = 0) ∧
  (len = 0 ∨ ∃ b off, a = some ⟨b, off, none⟩ ∧ b < B ∧ ∀ i (h : i < ns.length) j, j < 9 → w.cell? ⟨b, off + i * 9 + j, none⟩ = (ns[i]).cells[j]?)
theorem open_nodes {v : Value} {d : DataW H} {p : List MemPlace} {b0 : Nat} (hv : Value.okWide Try.prog w .any b0 29 v) (h : DataW.Trod enc Try.prog w 0 (fun _ => true) true 29 v d p) :
    ∃ a len cap ns, v = .slice a len cap ∧ NodesAt w.heap.size w a len cap ns := by
  obtain ⟨a, len, cap, rfl⟩ := okWide_slice Try.underlying29 hv
  obtain ⟨fuel, hf⟩ := h
  rcases Go.Deep.open_slice Try.underlying29 hf with ⟨hcs, _⟩ | ⟨x, l, c, m, n, D, Pl, hcs, _, hl, hm, hmm, _, hel⟩
  · simp [Value.cells] at hcs
    obtain ⟨rfl, rfl, rfl⟩ := hcs
    exact ⟨none, 0, 0, [], rfl, rfl, Nat.le_refl _, Nat.zero_le _, by simp, fun _ => rfl, .inl rfl⟩
  · simp [Value.cells] at hcs
    obtain ⟨rfl, rfl, rfl⟩ := hcs
    have hc : Try.prog.cellsOf 31 = 9 := by kernel_rfl
    simp only [if_true] at hmm
    rw [hmm, hc] at hel
    obtain ⟨f, hfc⟩ := Go.Deep.choose_lt (n := len) (p := fun i (nd : ND) => nd.ok ∧ ∀ j, j < 9 → w.cell? ((x.add (i * 9)).add j) = nd.cells[j]?) (fun i hi => by
      obtain ⟨cs', h1, h2⟩ := hel i (by omega)
      obtain ⟨nd, rfl, hok⟩ := open_node h2
      exact ⟨nd, hok, (World.cells?_some h1).2.2⟩)
    refine ⟨some x, len, cap, (List.range len).map f, rfl, by simp, hl, hm, ?_, fun e => by simp at e, ?_⟩
    · intro y hy
      simp only [List.mem_map, List.mem_range] at hy
      obtain ⟨i, hi, rfl⟩ := hy
      exact (hfc i hi).1
    · by_cases h0 : len = 0
      · exact .inl h0
      · obtain ⟨b, off, spot⟩ := x
        have hc0 := (hfc 0 (by omega)).2 0 (by omega)
        simp only [Nat.zero_mul] at hc0
        have hs0 : (f 0).cells[0]? = some (.int .i64 (f 0).kind) := rfl
        rw [hs0] at hc0
        have hspot : spot = none := by simpa [Addr.add] using World.cell?_spot hc0
        subst hspot
        have hadd : ∀ k, (⟨b, off, none⟩ : Addr).add k = ⟨b, off + k, none⟩ := fun k => by unfold Addr.add; split <;> simp_all
        refine .inr ⟨b, off, rfl, ?_, ?_⟩
        · exact block_lt_of_cell (by simpa [Addr.add] using hc0)
        · intro i hi j hj
          have hi' : i < len := by simpa using hi
          have := (hfc i hi').2 j hj
          rw [Go.Deep.add_add, hadd, ← Nat.add_assoc] at this
          rw [this]; simp
end
end Go.Proofs.Ytnbmhnbcmfcchaa
