/-
  What a node is made of: the model.
-/
import Derived.Test.YtbkcecilbpngcaaGreatRows
import Derived.Test.YtbkcecilbpngcaaGreatPaA
import Derived.Test.YtbkcecilbpngcaaGreatNodeM
import Derived.Test.YtbkcecilbpngcaaGreatNodeL
import Derived.Test.YtbkcecilbpngcaaGreatModD
import Derived.Test.YtbkcecilbpngcaaGreatModA
import Derived.Test.YtbkcecilbpngcaaGreatModB
import Derived.Test.YtbkcecilbpngcaaGreatModF
import Derived.Test.YtbkcecilbpngcaaGreatModG
import Derived.WalkKit
import Derived.ProofKit
import Derived.OpenShut
import Derived.WalkSpells
import Derived.WalkLawsBesides
import Derived.Outline
import Derived.BigQuiet
import Derived.Handy
import Derived.LoopTactic
import Derived.Deep.Light
import Derived.Deep.RegionWith
import Derived.Deep.RegionHeld3
import Derived.Deep.DeepCutAuto
import Derived.Lib.Hide
import Derived.Deep.OwnRows
namespace Go.Proofs.YtbkcecilbpngcaaGreat
open Go.ChangeShapes Go.WideShapes Go.ChangeAt Go.RowKit
set_option linter.unusedVariables false
set_option maxRecDepth 100000


theorem boolInfo : (Tryz.prog.info? 4).map (fun i => (i.zero, i.size, i.bytes)) = some (some (.bool false), 1, 1) := by kernel_rfl
/-- A row of bools. -/
def SetAt (g l0 : Nat) (s : Nat → Bool) (w : World) : Prop := w.rowIs g 4 l0 (fun j => .bool (s j))
theorem SetAt.below {g l0 : Nat} {s : Nat → Bool} {w w' : World} (h : SetAt g l0 s w) (hb : Below w.heap.size w w') : SetAt g l0 s w' := h.of_block (hb.block _ h.lt)
theorem SetAt.put {g l0 : Nat} {s : Nat → Bool} {w : World} (h : SetAt g l0 s w) (i : Nat) : SetAt g l0 (fun j => if j = i then true else s j) (w.setCell ⟨g, i, none⟩ (.bool true)) :=
  (World.rowIs.set h i (.bool true)).congr (fun j _ => by show (if j = i then _ else _) = Value.bool (if j = i then true else s j); split <;> rfl)
theorem rowIs_below {g n : Nat} {t : TypeId} {f : Nat → Value} {w w' : World} (h : w.rowIs g t n f) (hb : Below w.heap.size w w') : w'.rowIs g t n f := h.of_block (hb.block _ h.lt)
theorem node_at' {B : Nat} {w : World} {a : Option Addr} {len cap k : Nat} {ns : List ND} (h : NodesAt B w a len cap ns) (hk : k < len) :
    ∃ (nd : ND) (b off : Nat), ns.getD k default = nd ∧ nd.ok ∧ a = some ⟨b, off, none⟩ ∧ b < B ∧ ∀ j, j < 9 → w.cell? ⟨b, off + k * 9 + j, none⟩ = nd.cells[j]? := by
  obtain ⟨nd, hk', b, off, hnd, hok, ha, hbB, hc⟩ := node_at h hk
  exact ⟨nd, b, off, by simp [List.getD, hk', hnd], hok, ha, hbB, hc⟩

set_option maxHeartbeats 8000000 in
theorem c_l2Made {B : Nat} {a0 : Option Addr} {l0 p0 : Nat} {ns : List ND} (at_ : Nat) (w : World) (hBw : B ≤ w.heap.size) (h : NodesAt B w a0 l0 p0 ns) (hg : nodesGood ns) (h60 : l0 ≤ 60) (ha : at_ < l0) :
    Calls Tryz.prog 91 #[.slice a0 l0 p0, .int .i64 at_] w fun e w' => e = .returned (.slice (some ⟨w.heap.size, 0, none⟩) l0 l0) ∧ (∃ s, SetAt w.heap.size l0 s w' ∧ (∀ j, s j = true ↔ MadeOf ns at_ j)) ∧ Below w.heap.size w w' := by
  have HN := Go.Lib.hid h
  have hl0 : ns.length = l0 := h.1
  have HGD := Go.Lib.hid hg
  clear h hg
  have hmk := run_make_row' (P := Tryz.prog) 54 4 (.bool false) 1 Tryz.underlying54 boolInfo rfl .i64 .i64 l0 (by omega) (by omega) w
  have r0 := World.rowIs_made w (.bool false) l0 4
  have x0 := r0.cell ha
  have x1 := r0.frozen at_
  have hai : (at_ : Int) < l0 := by omega
  have hsz : ((madeCells #[Value.bool false] l0).setIfInBounds at_ (.bool true)).size = l0 := by simp [size_madeCells]
  have hr0 := World.rowIs_alloc w ((madeCells #[Value.bool false] l0).setIfInBounds at_ (.bool true)) 4 (fun j => .bool (decide (j = at_))) (fun i hi => by
    rw [hsz] at hi
    rw [Array.getElem?_setIfInBounds]
    by_cases e : at_ = i
    · subst e; rw [if_pos rfl, if_pos (by rw [size_madeCells]; exact ha)]; simp
    · rw [if_neg e]
      have hf : decide (i = at_) = false := by simp; omega
      rw [hf]; simp [madeCells, hi, Nat.mod_one])
  rw [hsz] at hr0
  have hb0 : Below w.heap.size w (w.alloc (.cells ((madeCells #[Value.bool false] l0).setIfInBounds at_ (.bool true)) 4)) := (Below.refl w.heap.size w).alloc (Nat.le_refl _) _
  have HR0 := Go.Lib.hid (show SetAt w.heap.size l0 (fun j => decide (j = at_)) _ from hr0)
  have HB0 := Go.Lib.hid hb0
  clear hr0 hb0 hsz
  clear r0
  go_enter Tryz.func91, Tryz.ntmps91
  go_wp2_with fail
  clear hmk x0 x1
  go_loopw [6] (fun i wr => ∃ (k : Nat) (s : Nat → Bool), k ≤ at_ + 1 ∧ i = .int .i64 ((k : Int) - 1) ∧ SetAt w.heap.size l0 s wr ∧ MInv ns at_ k s ∧ Below w.heap.size w wr) (fun i _ => (intOf i + 1).toNat)
  case atStart => exact ⟨at_ + 1, _, Nat.le_refl _, by simp, HR0.out, MInv.start _ _, HB0.out⟩
  case round =>
    obtain ⟨k, s, hk, rfl, hset, hinv, hBr⟩ := hrel
    have HS := Go.Lib.hid hset
    have HI := Go.Lib.hid hinv
    have HB := Go.Lib.hid hBr
    clear hset hinv hBr HR0 HB0
    cases k with
    | zero =>
      go_wp2_with fail
      go_ret
      exact ⟨rfl, ⟨s, HS.out, HI.out.done⟩, HB.out⟩
    | succ q =>
      have hq1 : ((q + 1 : Nat) : Int) - 1 = q := by omega
      rw [hq1]
      have hql : q < l0 := by omega
      have hqi : (q : Int) < l0 := by omega
      have hq0 : (0 : Int) ≤ q := by omega
      have y0 : wr.cell? ⟨w.heap.size, q, none⟩ = some (.bool (s q)) := World.rowIs.cell HS.out hql
      have hgl := World.rowIs.lt HS.out
      cases hs : s q with
      | false =>
        rw [hs] at y0
        go_wp2_with fail
        go_roundw
        case rel => exact ⟨q, s, by omega, by go_num, HS.out, HI.out.skip hs, HB.out⟩
        case measure => simp [intOf] <;> omega
      | true =>
        rw [hs] at y0
        have h1B : B ≤ wr.heap.size := Nat.le_trans hBw HB.out.size
        obtain ⟨nd, b, off, hnd, hok, rfl, hbB, hc⟩ := node_at' ((HN.out.rows.below (HB.out.mono hBw)).nodes) hql
        obtain ⟨c0, c1, c2, c3, -, -, -, -, -⟩ := node_cells hc
        have HND := Go.Lib.hid hnd
        clear hc hok hnd
        go_wp2_with fail
        go_region
        have hgn : wr.heap.size ≠ w.heap.size := by omega
        have hR1 : SetAt w.heap.size l0 s (wr.alloc (.cells #[.int .i64 nd.a, .int .i64 nd.b, .int .i64 nd.c] 3)).drew := HS.out.below (show Below wr.heap.size wr _ by go_grown)
        have hP1 : (wr.alloc (.cells #[.int .i64 nd.a, .int .i64 nd.b, .int .i64 nd.c] 3)).drew.rowIs wr.heap.size 3 3 (fun u => .int .i64 (partAt nd u)) := (World.rowIs_alloc wr #[.int .i64 nd.a, .int .i64 nd.b, .int .i64 nd.c] 3 (fun u => .int .i64 (partAt nd u)) (fun i hi => by
          have : i = 0 ∨ i = 1 ∨ i = 2 := by simp at hi; omega
          rcases this with rfl | rfl | rfl <;> rfl)).drew
        have hB1 : Below w.heap.size w (wr.alloc (.cells #[.int .i64 nd.a, .int .i64 nd.b, .int .i64 nd.c] 3)).drew := HB.out.trans (show Below w.heap.size wr _ from (show Below wr.heap.size wr _ by go_grown).mono HB.out.size)
        have HR1 := Go.Lib.hid hR1
        have HP1 := Go.Lib.hid hP1
        have HB1 := Go.Lib.hid hB1
        clear hR1 hP1 hB1 c0 c1 c2 c3 y0
        go_wp2_with fail
        go_loopw [8] (fun j wq => ∃ (t : Nat) (s' : Nat → Bool), t ≤ 3 ∧ j = .int .i64 t ∧ SetAt w.heap.size l0 s' wq ∧ wq.rowIs wr.heap.size 3 3 (fun u => .int .i64 (partAt nd u)) ∧ MStep ns at_ q t s s' ∧ Below w.heap.size w wq) (fun j _ => 3 - (intOf j).toNat)
        case atStart => exact ⟨0, s, by omega, rfl, HR1.out, HP1.out, MStep.start HI.out, HB1.out⟩
        case round =>
          obtain ⟨t, s', ht3, rfl, hset, hpts, hst, hBq⟩ := hrel
          have HSQ := Go.Lib.hid hset
          have HPQ := Go.Lib.hid hpts
          have HST := Go.Lib.hid hst
          have HBQ := Go.Lib.hid hBq
          clear hset hpts hst hBq HR1 HP1 HB1
          obtain ⟨nd', b', off', hnd', -, he, hbB', hc⟩ := node_at' ((HN.out.rows.below (HBQ.out.mono hBw)).nodes) hql
          obtain rfl : nd = nd' := HND.out.symm.trans hnd'
          simp only [Option.some.injEq, Addr.mk.injEq, and_true] at he
          obtain ⟨rfl, rfl⟩ := he
          have c0 := (node_cells hc).1
          clear hc hnd'
          have hpc : pcAt ns q = pcN nd.kind := by unfold pcAt; rw [HND.out]
          by_cases htp : (t : Int) < pcN nd.kind
          · have h3 := pcN_le nd.kind
            have ht3 : (t : Int) < 3 := by omega
            obtain ⟨hp0, hpq⟩ := good_part HGD.out (show q < ns.length by omega) (show (t : Int) < pcAt ns q by rw [hpc]; exact htp)
            rw [HND.out] at hp0
            have hpe : partAt nd t = (prt ns q t : Int) := by unfold prt; rw [HND.out]; omega
            have z0 := HPQ.out.cell (show t < 3 by omega)
            rw [hpe] at z0
            generalize hP : prt ns q t = P at z0 hpq
            have hPl : P < l0 := by omega
            have hPi : (P : Int) < l0 := by omega
            have z1 := World.rowIs.cell HSQ.out hPl
            have z2 := World.rowIs.frozen HSQ.out P
            have HPP := Go.Lib.hid hP
            clear hP hpe hpc hp0
            go_wp2_with fail
            refine (c_l2Parts _ _).mono ?_
            rintro e w' ⟨rfl, rfl⟩
            go_wp2_with fail
            go_roundw
            case rel => exact ⟨t + 1, _, by omega, by go_num, HSQ.out.put P, HPQ.out.setOther hgn _, by have := HST.out.next hs HGD.out (by omega) (by unfold pcAt; rw [HND.out]; exact htp); rw [HPP.out] at this; exact this, HBQ.out.setCell (Nat.le_refl _) _⟩
            case measure => simp [intOf] <;> omega
          · go_wp2_with fail
            refine (c_l2Parts _ _).mono ?_
            rintro e w' ⟨rfl, rfl⟩
            go_wp2_with fail
            go_roundw
            case rel => exact ⟨q, s', by omega, by go_num, HSQ.out, HST.out.done HI.out (by rw [hpc]; omega), HBQ.out⟩
            case measure => simp [intOf] <;> omega
end Go.Proofs.YtbkcecilbpngcaaGreat
