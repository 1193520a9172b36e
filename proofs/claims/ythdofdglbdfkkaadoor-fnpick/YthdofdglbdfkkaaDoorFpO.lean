/-
  A code that comes in: its bytes.
-/
import Derived.Test.YthdofdglbdfkkaaDoorRows
import Derived.Test.YthdofdglbdfkkaaDoorG0
import Derived.Test.YthdofdglbdfkkaaDoorRd
import Derived.WalkKit
import Derived.ProofKit
import Derived.OpenShut
import Derived.Deep.Slices
namespace Go.Proofs.YthdofdglbdfkkaaDoor
open Go.ChangeShapes Go.WideShapes Go.ChangeAt Go.RowKit Go.Maps Go.ChangeMaps
set_option linter.unusedVariables false
set_option maxRecDepth 100000
def byteCells (z : Int) : List Value := [.int .u8 z]
section
variable {H : Type} {enc : TypeId × Value → H} {w : World}
theorem open_byte {base : Nat} {spare : Nat → Bool} {held : Bool} {fuel : Nat} {cs : List Value} {x : DataW H × List MemPlace} (h : DataW.trod enc Tryd.prog w base spare held fuel 5 cs = some x) : ∃ nd : Int, cs = byteCells nd ∧ (0 ≤ nd ∧ nd ≤ 255) := by
  obtain ⟨v0, e0, _, o0⟩ := DataW.trod_int Tryd.underlying5 h
  have := bounds_u8 o0
  exact ⟨v0, e0, this.1, this.2⟩
theorem open_bytes {v : Value} {d : DataW H} {p : List MemPlace} {b0 : Nat} (hv : Value.okWide Tryd.prog w .any b0 22 v) (h : DataW.Trod enc Tryd.prog w 0 (fun _ => true) true 22 v d p) :
    ∃ a len cap, v = .slice a len cap ∧ BytesAt w.heap.size w a len cap := by
  obtain ⟨a, len, cap, rfl⟩ := okWide_slice Tryd.underlying22 hv
  obtain ⟨fuel, h⟩ := h
  simp only [Value.cells] at h
  obtain ⟨s, vs, e, r⟩ := open_rows (cells := byteCells) (ok := fun z => 0 ≤ z ∧ z ≤ 255) (c := 1) Tryd.underlying22 (by kernel_rfl) (fun h => open_byte h) (fun nd => ⟨_, rfl⟩) (by decide) h
  simp at e
  obtain ⟨rfl, rfl, rfl⟩ := e
  obtain ⟨r1, r2, r3, r4, r5, r6⟩ := r
  refine ⟨_, _, _, rfl, r2, r3, r5, ?_⟩
  rcases r6 with r6 | ⟨b, off, e, hlt, hc⟩
  · exact .inl (by omega)
  · refine .inr ⟨b, off, fun i => vs.getD i 0, e, hlt, fun i hi => ?_⟩
    have hi' : i < vs.length := by omega
    have h1 := hc i hi' 0 (by decide)
    have h2 := r4 _ (List.getElem_mem hi')
    have e2 : vs.getD i 0 = vs[i] := by simp [List.getD, hi']
    show _ = some (Value.int .u8 (vs.getD i 0)) ∧ 0 ≤ vs.getD i 0 ∧ vs.getD i 0 ≤ 255
    rw [e2]
    exact ⟨by simpa [byteCells] using h1, h2⟩
end
end Go.Proofs.YthdofdglbdfkkaaDoor
