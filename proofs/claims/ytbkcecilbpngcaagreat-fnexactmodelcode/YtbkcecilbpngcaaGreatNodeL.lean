/-
  The laws' own functions on nodes: how large they are, copies of them, whether two are alike.
-/
import Derived.Test.YtbkcecilbpngcaaGreatRows
import Derived.Test.YtbkcecilbpngcaaGreatPaA
import Derived.WalkKit
import Derived.ProofKit
import Derived.OpenShut
import Derived.WalkSpells
import Derived.WalkLawsBesides
import Derived.Outline
import Derived.BigQuiet
import Derived.Handy
import Derived.Laws.Rows
namespace Go.Proofs.YtbkcecilbpngcaaGreat
open Go.ChangeShapes Go.WideShapes Go.ChangeAt Go.RowKit
set_option linter.unusedVariables false

theorem c_szNode (x : ND) (hx : x.name.size ≤ maxLen) (left : Int) (hl0 : 0 ≤ left) (hl1 : left ≤ 1048576) (w : World) :
    Calls Tryz.prog 56 #[.agg x.cells.toArray, .int .i64 left] w fun e w' => (∃ r, e = .returned (.int .i64 r) ∧ r ≤ left ∧ -1 ≤ r) ∧ Below w.heap.size w w' := by
  have hm : x.name.size ≤ maxLen := hx
  unfold maxLen at hm
  obtain ⟨k, a, b, c, n, m, si, sw, nm⟩ := x
  simp only [ND.cells] at *
  go_enter Tryz.func56, Tryz.ntmps56
  go_wp2
  · go_ret
    exact ⟨⟨_, rfl, by omega, by omega⟩, (Below.refl _ _).alloc (Nat.le_refl _) _⟩
  · go_ret
    exact ⟨⟨_, rfl, by omega, by omega⟩, (Below.refl _ _).alloc (Nat.le_refl _) _⟩

theorem NodesAt.below {B : Nat} {w w' : World} {a : Option Addr} {len cap : Nat} {ns : List ND} (h : NodesAt B w a len cap ns) (hb : Below B w w') : NodesAt B w' a len cap ns := by
  obtain ⟨h1, h2, h3, h4, h5, h6⟩ := h
  refine ⟨h1, h2, h3, h4, h5, ?_⟩
  rcases h6 with h6 | ⟨b, off, rfl, hlt, hc⟩
  · exact .inl h6
  · exact .inr ⟨b, off, rfl, hlt, fun i hi j hj => by rw [hb.cell (p := ⟨b, off + i * 9 + j, none⟩) hlt]; exact hc i hi j hj⟩

/-- A node's nine cells, as a walk comes to them. -/
theorem node_cells {w : World} {b o : Nat} {x : ND} (h : ∀ j, j < 9 → w.cell? ⟨b, o + j, none⟩ = x.cells[j]?) :
    w.cell? ⟨b, o, none⟩ = some (.int .i64 x.kind) ∧ w.cell? ⟨b, o + 1, none⟩ = some (.int .i64 x.a) ∧ w.cell? ⟨b, o + 2, none⟩ = some (.int .i64 x.b) ∧ w.cell? ⟨b, o + 3, none⟩ = some (.int .i64 x.c) ∧ w.cell? ⟨b, o + 4, none⟩ = some (.int .i64 x.n) ∧ w.cell? ⟨b, o + 5, none⟩ = some (.int .i64 x.m) ∧ w.cell? ⟨b, o + 6, none⟩ = some (.int .i64 x.si) ∧ w.cell? ⟨b, o + 7, none⟩ = some (.int .i64 x.sw) ∧ w.cell? ⟨b, o + 8, none⟩ = some (.string x.name) :=
  ⟨h 0 (by decide), h 1 (by decide), h 2 (by decide), h 3 (by decide), h 4 (by decide), h 5 (by decide), h 6 (by decide), h 7 (by decide), h 8 (by decide)⟩

theorem c_szNodeS {B : Nat} {a : Option Addr} {len cap : Nat} {ns : List ND} (left : Int) (hl0 : 0 ≤ left) (hl1 : left ≤ 1048576) (w : World) (hB : B ≤ w.heap.size) (h : NodesAt B w a len cap ns) :
    Calls Tryz.prog 20 #[.slice a len cap, .int .i64 left] w fun e w' => (∃ r, e = .returned (.int .i64 r) ∧ -1 ≤ r ∧ r ≤ left ∧ (0 ≤ r → (len : Int) ≤ left)) ∧ Below B w w' := by
  have hm : len ≤ maxLen := Nat.le_trans h.2.1 h.2.2.1
  unfold maxLen at hm
  by_cases hneg : left - len < 0
  · have hw : wrap64 (left - len) = left - len := IntWalk.wrap64_in _ (by omega)
    clear h
    go_enter Tryz.func20, Tryz.ntmps20
    go_wp2
    go_ret
    exact ⟨⟨_, rfl, by omega, by omega, by omega⟩, Below.refl _ _⟩
  · have hw : wrap64 (left - len) = left - len := IntWalk.wrap64_in _ (by omega)
    have HN : Hid (NodesAt B w a len cap ns) := h
    have hlen : ns.length = len := h.1
    clear h
    go_enter Tryz.func20, Tryz.ntmps20
    go_wp2
    go_loopw [1, 5] (fun l i wr => ∃ (k : Nat) (l' : Int), k ≤ len ∧ i = .int .i64 k ∧ l = .int .i64 l' ∧ 0 ≤ l' ∧ l' ≤ left ∧ Below B w wr) (fun _ i _ => len - (intOf i).toNat)
    case atStart => exact ⟨0, left - len, by omega, rfl, rfl, by omega, by omega, Below.refl _ _⟩
    case round =>
      obtain ⟨k, l', hk, rfl, rfl, hl2, hl3, hBk⟩ := hrel
      by_cases hlt : k < len
      · have hki : (k : Int) < len := by omega
        have hsz : B ≤ wr.heap.size := Nat.le_trans hB hBk.size
        obtain ⟨-, -, -, hok, -, hcells⟩ := (HN.out.below hBk)
        rcases hcells with h0 | ⟨b, off, rfl, hbB, hc⟩
        · omega
        · have hx := hok (ns[k]'(by omega)) (List.getElem_mem ..)
          have hc' := hc k (by omega)
          generalize ns[k]'(by omega) = nd at hx hc'
          obtain ⟨c0, c1, c2, c3, c4, c5, c6, c7, c8⟩ := node_cells hc'
          clear hc hc' hok
          go_wp2_with fail
          refine (c_szNode nd hx.2.2.2.2.2.2.2.2 _ hl2 (by omega) _).mono ?_
          rintro e w1 ⟨⟨r, rfl, hr1, hr2⟩, hB1⟩
          have hB2 : Below B w w1 := hBk.trans (hB1.mono hsz)
          clear c0 c1 c2 c3 c4 c5 c6 c7 c8 hx
          by_cases hr : r < 0
          · go_wp2
            go_ret
            exact ⟨⟨_, rfl, by omega, by omega, by omega⟩, hB2⟩
          · go_wp2
            go_roundw
            case rel => exact ⟨k + 1, r, by omega, by go_num, rfl, by omega, by omega, hB2⟩
            case measure => simp [intOf]; omega
      · have hki : ¬ (k : Int) < len := by omega
        go_wp2
        go_ret
        exact ⟨⟨_, rfl, by omega, by omega, by omega⟩, hBk⟩

theorem c_toSortW (i n : Int) (w : World) :
    Calls Tryz.prog 93 #[.agg #[.int .i64 i, .int .i64 n]] w fun e w' => e = .returned (.agg #[.int .i64 i, .int .i64 n]) ∧ w' = ((w.alloc (.cells #[.int .i64 i, .int .i64 n] 72)).alloc (.cells #[.int .i64 i, .int .i64 n] 64)).alloc (.cells #[.int .i64 i, .int .i64 n] 64) := by
  go_enter Tryz.func93, Tryz.ntmps93
  go_wp2
  exact bodyPost_ret (v := .agg #[.int .i64 i, .int .i64 n]) (results_cell_row rfl _ _ (w.heap.size + 1) 64 #[.int .i64 i, .int .i64 n] (0, 0) _ rfl (heap_alloc2_at _ _ _ _) Tryz.underlying64 rfl (by kernel_rfl)) rfl ⟨rfl, rfl⟩

theorem below_allocs4 (W : World) (A B C D : Obj) : Below W.heap.size W ((((W.alloc A).alloc B).alloc C).alloc D) := by go_grown
theorem heap_second {w W' : World} {A B : Obj} (h : Below ((w.alloc A).alloc B).heap.size ((w.alloc A).alloc B) W') : W'.heap[w.heap.size + 1]? = some B :=
  (h.block _ (by show w.heap.size + 1 < ((w.heap.push A).push B).size; simp)).trans (heap_alloc2_new w A B)
theorem below_two {w W' : World} {A B : Obj} (h : Below ((w.alloc A).alloc B).heap.size ((w.alloc A).alloc B) W') : Below w.heap.size w W' := by
  have h0 : Below w.heap.size w ((w.alloc A).alloc B) := by go_grown
  exact h0.trans (h.mono h0.size)

theorem c_toNode (x : ND) (w : World) :
    Calls Tryz.prog 64 #[.agg x.cells.toArray] w fun e w' => e = .returned (.agg x.cells.toArray) ∧ Below w.heap.size w w' := by
  obtain ⟨k, a, b, c, n, m, si, sw, nm⟩ := x
  simp only [ND.cells]
  go_enter Tryz.func64, Tryz.ntmps64
  go_wp2_with (go_at_call 93; refine (c_toSortW _ _ _).mono ?_; rintro e w1 ⟨rfl, rfl⟩)
  exact bodyPost_ret (v := .agg _) (results_cell_row rfl _ _ (w.heap.size + 1) 66 _ (0, 0) _ rfl (heap_second (below_allocs4 _ _ _ _ _)) Tryz.underlying66 rfl (by kernel_rfl)) rfl ⟨rfl, below_two (below_allocs4 _ _ _ _ _)⟩

theorem two_lt (w : World) (A B : Obj) : w.heap.size < ((w.alloc A).alloc B).heap.size ∧ w.heap.size + 1 < ((w.alloc A).alloc B).heap.size := by
  constructor
  · show w.heap.size < ((w.heap.push A).push B).size; simp; omega
  · show w.heap.size + 1 < ((w.heap.push A).push B).size; simp
theorem c_eqSort (i n i' n' : Int) (w : World) :
    Calls Tryz.prog 101 #[.agg #[.int .i64 i, .int .i64 n], .agg #[.int .i64 i', .int .i64 n']] w fun e w' => e = .returned (.bool (decide (i = i' ∧ n = n'))) ∧ Below w.heap.size w w' := by
  by_cases h1 : i = i'
  · by_cases h2 : n = n'
    · subst h1 h2
      go_enter Tryz.func101, Tryz.ntmps101
      go_wp2
      go_ret
      exact ⟨ret_bool (by simp), by go_grown⟩
    · have e2 : (n != n') = true := by simpa using h2
      subst h1
      go_enter Tryz.func101, Tryz.ntmps101
      go_wp2
      go_ret
      exact ⟨ret_bool (by simp [h2]), by go_grown⟩
  · have e1 : (i != i') = true := by simpa using h1
    go_enter Tryz.func101, Tryz.ntmps101
    go_wp2
    go_ret
    exact ⟨ret_bool (by simp [h1]), by go_grown⟩

theorem c_eqNode (x : ND) (w : World) :
    Calls Tryz.prog 73 #[.agg x.cells.toArray, .agg x.cells.toArray] w fun e w' => e = .returned (.bool true) ∧ Below w.heap.size w w' := by
  obtain ⟨k, a, b, c, n, m, si, sw, nm⟩ := x
  simp only [ND.cells]
  go_enter Tryz.func73, Tryz.ntmps73
  go_wp2_with (go_at_call 101; refine (c_eqSort _ _ _ _ _).mono ?_; rintro e w1 ⟨rfl, hB⟩; have d1 := hB.cell (p := ⟨w.heap.size, 8, none⟩) (two_lt _ _ _).1; have d2 := hB.cell (p := ⟨w.heap.size + 1, 8, none⟩) (two_lt _ _ _).2)
  go_ret
  exact ⟨rfl, below_two hB⟩
end Go.Proofs.YtbkcecilbpngcaaGreat
