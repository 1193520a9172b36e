/-
  The diagram that is drawn, spoilt or not, can be read.
-/
import Derived.Test.YthdofdglbdfkkaaDoorRows
import Derived.Test.YthdofdglbdfkkaaDoorPaA
import Derived.Test.YthdofdglbdfkkaaDoorG0
import Derived.Test.YthdofdglbdfkkaaDoorRd
import Derived.Test.YthdofdglbdfkkaaDoorBdT
import Derived.Test.YthdofdglbdfkkaaDoorBdN
import Derived.Test.YthdofdglbdfkkaaDoorBdY
import Derived.Test.YthdofdglbdfkkaaDoorFoO
import Derived.Test.YthdofdglbdfkkaaDoorFoP
import Derived.Test.YthdofdglbdfkkaaDoorFpB
import Derived.Test.YthdofdglbdfkkaaDoorFpD
import Derived.Test.YthdofdglbdfkkaaDoorFpG
import Derived.WalkKit
import Derived.ProofKit
import Derived.OpenShut
import Derived.WalkSpells
import Derived.WalkLawsBesides
import Derived.Outline
import Derived.BigQuiet
import Derived.Handy
import Derived.LoopTactic
import Derived.Deep.Light
import Derived.Deep.RegionWith
import Derived.Deep.RegionHeld3
import Derived.Deep.DeepCutAuto
import Derived.Lib.Hide
import Derived.Maps.OwnRows
import Derived.Deep.Onto
import Derived.OneCell
import Derived.StillTailTactics
import Derived.Deep.AppendLies
import Derived.Deep.RegionLaw
namespace Go.Proofs.YthdofdglbdfkkaaDoor
open Go.ChangeShapes Go.WideShapes Go.ChangeAt Go.RowKit Go.Maps Go.ChangeMaps
set_option linter.unusedVariables false
set_option maxRecDepth 100000

/-- A diagram that is under way: its own box, its nodes. -/
structure DgAt (B R : Nat) (q : Int) (w : World) (gb : Nat) (V Rt : Int) (xa : Option Addr) (xl xc : Nat) (wr : World) : Prop where
  dr : DrAt B R q w wr
  bx : wr.heap[gb]? = some (.cells #[.int .i64 V, .slice xa xl xc, .int .i64 Rt] 25 (0, 0))
  nv : NodesV (w.heap.size + 1) xa xl xc wr
  ne : ∀ g, xa = some ⟨g, 0, none⟩ → g ≠ gb
  gt : w.heap.size < gb
  hl : xl ≤ 601
  hv : -1 ≤ V ∧ V ≤ 15
theorem DgAt.only {B R gb : Nat} {q q' V Rt : Int} {w wr w' : World} {xa : Option Addr} {xl xc : Nat} (h : DgAt B R q w gb V Rt xa xl xc wr) (hO : Only R wr w') (hr : RdTo B R q' w') : DgAt B R q' w gb V Rt xa xl xc w' := by
  have hR := h.dr.lt
  have hg := h.gt
  exact ⟨h.dr.only hO hr, hO.blk h.bx (by omega), h.nv.only hO (by omega), h.ne, hg, h.hl, h.hv⟩
theorem DgAt.more {B R gb : Nat} {q q' V Rt : Int} {w wr : World} {xa : Option Addr} {xl xc : Nat} (h : DgAt B R q w gb V Rt xa xl xc wr) (hq : q ≤ q') : DgAt B R q' w gb V Rt xa xl xc wr := ⟨h.dr.more hq, h.bx, h.nv, h.ne, h.gt, h.hl, h.hv⟩
theorem DgAt.setV {B R gb : Nat} {q V Rt V' : Int} {w wr : World} {xa : Option Addr} {xl xc : Nat} (h : DgAt B R q w gb V Rt xa xl xc wr) (hv : -1 ≤ V' ∧ V' ≤ 15) : DgAt B R q w gb V' Rt xa xl xc (wr.setCell ⟨gb, 0, none⟩ (.int .i64 V')) :=
  ⟨h.dr.setc h.gt _, heap_setCell_same _ _ 0 _ _ _ h.bx, h.nv.same (fun g _ _ hx => Below.heap_setCell wr _ _ _ (h.ne g hx)) (by simp [World.setCell]), h.ne, h.gt, h.hl, hv⟩
theorem DgAt.setR {B R gb : Nat} {q V Rt Rt' : Int} {w wr : World} {xa : Option Addr} {xl xc : Nat} (h : DgAt B R q w gb V Rt xa xl xc wr) : DgAt B R q w gb V Rt' xa xl xc (wr.setCell ⟨gb, 2, none⟩ (.int .i64 Rt')) :=
  ⟨h.dr.setc h.gt _, heap_setCell_same _ _ 2 _ _ _ h.bx, h.nv.same (fun g _ _ hx => Below.heap_setCell wr _ _ _ (h.ne g hx)) (by simp [World.setCell]), h.ne, h.gt, h.hl, h.hv⟩
theorem DgAt.drew {B R gb : Nat} {q V Rt : Int} {w wr : World} {xa : Option Addr} {xl xc : Nat} (h : DgAt B R q w gb V Rt xa xl xc wr) (m : Nat) : DgAt B R q w gb V Rt xa xl xc (wr.drewN m) :=
  ⟨⟨h.dr.rd.drew m, ⟨h.dr.on.os, by exact h.dr.on.tape, h.dr.on.output, h.dr.on.size, h.dr.on.block⟩, h.dr.k0, h.dr.lt⟩, h.bx, h.nv.same (fun _ _ _ _ => rfl) (Nat.le_refl _), h.ne, h.gt, h.hl, h.hv⟩
theorem DgAt.setN {B R gb g x : Nat} {q V Rt z : Int} {w wr : World} {xl xc : Nat} (h : DgAt B R q w gb V Rt (some ⟨g, 0, none⟩) xl xc wr) (hx : x < xl * 3) (hz : fits z) : DgAt B R q w gb V Rt (some ⟨g, 0, none⟩) xl xc (wr.setCell ⟨g, x, none⟩ (.int .i64 z)) := by
  have hne := h.ne g rfl
  rcases h.nv with ⟨h1, -, -⟩ | ⟨g', h1, h2, h3, h4, h5⟩
  · cases h1
  · simp only [Option.some.injEq, Addr.mk.injEq, and_true] at h1
    subst h1
    exact ⟨h.dr.setc (by omega) _, (Below.heap_setCell wr _ _ _ (fun e => hne e.symm)).trans h.bx, .inr ⟨g, rfl, h2, h3, h4, h5.put hx hz⟩, h.ne, h.gt, h.hl, h.hv⟩
theorem DgAt.cell {B R gb g : Nat} {q V Rt : Int} {w wr : World} {xl xc : Nat} (h : DgAt B R q w gb V Rt (some ⟨g, 0, none⟩) xl xc wr) {j : Nat} (hj : j < xl * 3) : (∃ z : Int, fits z ∧ wr.cell? ⟨g, j, none⟩ = some (.int .i64 z)) ∧ wr.frozen? ⟨g, j, none⟩ = false := by
  rcases h.nv with ⟨h1, -, -⟩ | ⟨g', h1, h2, h3, h4, h5⟩
  · cases h1
  · simp only [Option.some.injEq, Addr.mk.injEq, and_true] at h1
    subst h1
    exact h5.c j hj
theorem DgAt.app {B R gb : Nat} {q V Rt : Int} {w wr w4 : World} {o : Obj} {xa xa' : Option Addr} {xc xc' : Nat} {ms : List BN} (h : DgAt B R q w gb V Rt xa ms.length xc wr) (how : OwnN wr (w.heap.size + 1) (.slice xa ms.length xc) ms) (hms : ms.length ≤ 600)
    (hg : (wr.alloc o).grownBy w4 (Value.slice xa ms.length xc).ownBlock) (hown : OwnN w4 (w.heap.size + 1) (.slice xa' (ms.length + 1) xc') (ms ++ [⟨0, 0, 1⟩])) (hno : ∀ g, xa' = some ⟨g, 0, none⟩ → (Value.slice xa ms.length xc).ownBlock = some g ∨ wr.heap.size ≤ g) :
    DgAt B R q w gb V Rt xa' (ms.length + 1) xc' (w4.setCell ⟨gb, 1, none⟩ (.slice xa' (ms.length + 1) xc')) := by
  have hgt := h.gt
  have hR := h.dr.lt
  have hgl := blk_lt h.bx
  have hkl := blk_lt h.dr.k0
  have hown1 : ∀ g, (Value.slice xa ms.length xc).ownBlock = some g → w.heap.size + 1 ≤ g := fun g hg2 => (how.1.lt g hg2).1
  have hng : ∀ g, (Value.slice xa ms.length xc).ownBlock = some g → g ≠ gb := fun g hg2 => h.ne g (by
    cases xa with
    | none => cases hg2
    | some ad => obtain ⟨b, off, sp⟩ := ad
                 obtain ⟨a', c', e, hf⟩ := OwnN.form how
                 simp only [Value.slice.injEq, true_and] at e
                 obtain ⟨rfl, rfl⟩ := e
                 rcases hf with ⟨h1, -⟩ | ⟨g', h1, -⟩
                 · cases h1
                 · rw [h1] at hg2 ⊢; cases hg2; rfl)
  have hbl : ∀ k, k < wr.heap.size → (Value.slice xa ms.length xc).ownBlock ≠ some k → w4.heap[k]? = wr.heap[k]? := fun k hk hn =>
    (hg.block k (Nat.lt_trans hk (alloc_ltS wr o)) (fun e => hn e.symm)).trans (Below.heap_alloc wr o _ hk)
  have hsz : wr.heap.size ≤ w4.heap.size := Nat.le_trans (Nat.le_of_lt (alloc_ltS wr o)) hg.size
  have hb : Below (w.heap.size + 1) wr w4 := ((Below.refl (w.heap.size + 1) wr).alloc (by omega) o).grown hg (by have := alloc_ltS wr o; omega) hown1
  have hd4 : DrAt B R q w w4 := by
    refine ⟨h.dr.rd.below hb (by omega) (by have := h.dr.rd.le; omega), ⟨hb.os.trans h.dr.on.os, hb.tape.trans h.dr.on.tape, hb.output.trans h.dr.on.output, Nat.le_trans h.dr.on.size hsz, fun k hk hkR => (hb.block k (by omega)).trans (h.dr.on.block k hk hkR)⟩, (hb.block _ (Nat.lt_succ_self _)).trans h.dr.k0, hR⟩
  have hb4 : w4.heap[gb]? = some (.cells #[.int .i64 V, .slice xa ms.length xc, .int .i64 Rt] 25 (0, 0)) := (hbl gb hgl (fun e => hng gb e rfl)).trans h.bx
  have hne' : ∀ g, xa' = some ⟨g, 0, none⟩ → g ≠ gb := fun g hg2 => by
    rcases hno g hg2 with h1 | h1
    · exact hng g h1
    · omega
  have hn : NodesV (w.heap.size + 1) xa' (ms.length + 1) xc' w4 := by
    have := OwnN.nodes (ns := ms ++ [⟨0, 0, 1⟩]) (a := xa') (cap := xc') (by rw [List.length_append]; exact hown)
    rw [List.length_append] at this
    exact this
  exact ⟨hd4.setc hgt _, heap_setCell_same _ _ 1 _ _ _ hb4, hn.same (fun g _ _ hx => Below.heap_setCell w4 _ _ _ (hne' g hx)) (by simp [World.setCell]), hne', hgt, by omega, h.hv⟩

theorem fits_wr {z : Int} (h : -100000 ≤ z ∧ z ≤ 100000) : fits (IntKind.i64.wrap z) := by
  rw [IntWalk.i64_in _ (by omega)]
  exact WalkArith.wf_i64 (by omega)
theorem NodesE.there {g n : Nat} {w : World} (h : NodesE g n w) : w.there g 0 (n * 3) := fun j hj => by
  obtain ⟨⟨z, _, hc⟩, hf⟩ := h.c j hj
  rw [Nat.zero_add]
  exact ⟨by rw [hc]; rfl, hf⟩
theorem DgAt.there {B R gb g : Nat} {q V Rt : Int} {w wr : World} {xl xc : Nat} (h : DgAt B R q w gb V Rt (some ⟨g, 0, none⟩) xl xc wr) : wr.there g 0 (xl * 3) ∧ g < wr.heap.size := by
  rcases h.nv with ⟨h1, -, -⟩ | ⟨g', h1, h2, h3, h4, h5⟩
  · cases h1
  · simp only [Option.some.injEq, Addr.mk.injEq, and_true] at h1
    subst h1
    exact ⟨h5.there, h5.lt⟩
theorem DgAt.setS {B R gb g k : Nat} {q V Rt a b c : Int} {w wr : World} {xl xc : Nat} (h : DgAt B R q w gb V Rt (some ⟨g, 0, none⟩) xl xc wr) (hk : k < xl) (ha : fits a) (hb : fits b) (hc : fits c) : DgAt B R q w gb V Rt (some ⟨g, 0, none⟩) xl xc (wr.setCells g (k * 3) [.int .i64 a, .int .i64 b, .int .i64 c]) :=
  ((h.setN (x := k * 3) (by omega) ha).setN (x := k * 3 + 1) (by omega) hb).setN (x := k * 3 + 2) (by omega) hc
theorem DgAt.below {B R gb : Nat} {q V Rt : Int} {w wr w' : World} {xa : Option Addr} {xl xc : Nat} (h : DgAt B R q w gb V Rt xa xl xc wr) (hb : Below wr.heap.size wr w') : DgAt B R q w gb V Rt xa xl xc w' := by
  have hR := h.dr.lt
  have hs := h.dr.on.size
  have hBR := h.dr.rd.le
  exact h.only (.of_below hb) (h.dr.rd.below hb (by omega) (by omega))
theorem setS_other {w : World} {g b k : Nat} {x y z : Value} {o : Obj} (h : w.heap[b]? = some o) (hne : b ≠ g) : (w.setCells g k [x, y, z]).heap[b]? = some o := by
  show (((w.setCell ⟨g, k, none⟩ x).setCell ⟨g, k + 1, none⟩ y).setCell ⟨g, k + 1 + 1, none⟩ z).heap[b]? = some o
  rw [Below.heap_setCell _ _ _ _ (show b ≠ g from hne), Below.heap_setCell _ _ _ _ (show b ≠ g from hne), Below.heap_setCell _ _ _ _ (show b ≠ g from hne)]
  exact h
theorem only_undrew {R : Nat} {w w' : World} (h : Only R w.drew w') : Only R w w' := ⟨h.os, h.tape, h.output, h.size, h.block⟩
theorem own_more {w w5 : World} {base : Nat} {xa : Option Addr} {xc : Nat} {v' : Value} {ms : List BN} (h : OwnN w base (.slice xa ms.length xc) ms)
    (hown : w5.ownsRow base 67 3 v' (ms.length + 1) (ms.flatMap BN.cells ++ [.int .i64 0, .int .i64 0, .int .i64 1])) :
    ∃ xa' xc', v' = .slice xa' (ms.length + 1) xc' ∧ OwnN w5 base (.slice xa' (ms.length + 1) xc') (ms ++ [⟨0, 0, 1⟩]) := by
  have h2 := h.app (w' := w5) (v' := v') (ms := [⟨0, 0, 1⟩]) (fun x hx => by simp at hx; subst hx; exact ⟨WalkArith.wf_i64 (by decide), WalkArith.wf_i64 (by decide), WalkArith.wf_i64 (by decide)⟩) hown
  obtain ⟨a, c, e, -⟩ := OwnN.form h2
  rw [List.length_append] at e
  subst e
  exact ⟨a, c, rfl, h2⟩
theorem own_new {w w5 : World} {o : Obj} {xa xa' : Option Addr} {n n' xc xc' : Nat} (hg : (w.alloc o).grownBy w5 (Value.slice xa n xc).ownBlock) (hloc : (Value.slice xa' n' xc').ownBlock = (Value.slice xa n xc).ownBlock ∨ (Value.slice xa' n' xc').ownBlock = some (w.alloc o).heap.size) :
    ∀ g, xa' = some ⟨g, 0, none⟩ → (Value.slice xa n xc).ownBlock = some g ∨ w.heap.size ≤ g := by
  intro g hg2
  subst hg2
  rcases hloc with h | h
  · exact .inl h.symm
  · have e : g = (w.alloc o).heap.size := by cases h; rfl
    exact .inr (by rw [e]; exact Nat.le_of_lt (alloc_ltS w o))
theorem own_box {B R gb : Nat} {q V Rt : Int} {w wr w5 : World} {o : Obj} {xa : Option Addr} {xc : Nat} {ms : List BN} (h : DgAt B R q w gb V Rt xa ms.length xc wr) (how : OwnN wr (w.heap.size + 1) (.slice xa ms.length xc) ms) (hg : (wr.alloc o).grownBy w5 (Value.slice xa ms.length xc).ownBlock) :
    w5.heap[gb]? = some (.cells #[.int .i64 V, .slice xa ms.length xc, .int .i64 Rt] 25 (0, 0)) := by
  have hgl := blk_lt h.bx
  refine ((hg.block gb (Nat.lt_trans hgl (alloc_ltS wr o)) (fun e => ?_)).trans (Below.heap_alloc wr o _ hgl)).trans h.bx
  obtain ⟨a', c', e2, hf⟩ := OwnN.form how
  simp only [Value.slice.injEq, true_and] at e2
  obtain ⟨rfl, rfl⟩ := e2
  rcases hf with ⟨h1, -⟩ | ⟨g', h1, -⟩
  · rw [h1] at e; cases e
  · refine h.ne g' h1 ?_
    rw [h1] at e; cases e; rfl

set_option maxHeartbeats 16000000 in
theorem c_rdDiagram {B R : Nat} {p : Int} (n : Int) (w : World) (h : RdTo B R p w) (hp1 : p < 600000) (hn0 : -1 ≤ n) (hn1 : n ≤ 14) :
    Calls Tryd.prog 36 #[.pointer (some ⟨R, 0, none⟩), .int .i64 n] w (DgQ B R (p + 8300) (-1) 15 601 w) := by
  have H := Go.Lib.hid h
  clear h
  obtain ⟨i1, hi1, hz01, hz11, hz21⟩ := info_parts bnInfo
  have HI1 := Go.Lib.hid hi1
  have HZ01 := Go.Lib.hid hz01
  have HZ11 := Go.Lib.hid hz11
  have HZ21 := Go.Lib.hid hz21
  clear hi1 hz01 hz11 hz21
  go_enter Tryd.func36, Tryd.ntmps36
  go_upto_region 1 with fail
  refine code_gen (R := fun wb => DrAt B R p w wb) ⟨H.out.alloc _, (Only.refl R w).alloc _, (MapKept.heap_alloc _ _).1, H.out.lt⟩ ?_
  intro w0 hd
  have DR := Go.Lib.hid hd
  clear hd
  go_wp2_with fail
  refine (c_sound n w0 DR.out.rd (by omega)).mono ?_
  rintro e w1 ⟨x, ms, Rt, rfl, how, hl, hr, ho⟩
  have hbase : w.heap.size + 1 ≤ w0.heap.size + 1 := Nat.succ_le_succ (Nat.le_of_lt (blk_lt DR.out.k0))
  replace DR := Go.Lib.hid (DR.out.only ho hr)
  have HOW := Go.Lib.hid (OwnN.mono how hbase)
  obtain ⟨xa, xc, rfl, -⟩ := OwnN.form how
  have HK := Go.Lib.hid (show ∀ g, xa = some ⟨g, 0, none⟩ → g < w1.heap.size from fun g hg => (how.1.lt g (by rw [hg]; rfl)).2)
  clear how hr ho hbase
  go_upto_region 2 with fail
  refine code_gen (R := fun wb => wb.heap[w1.heap.size]? = some (.cells #[.int .i64 n, .slice xa ms.length xc, .int .i64 Rt] 25 (0, 0)) ∧ Below w1.heap.size w1 wb) ⟨by first | exact (MapKept.heap_alloc _ _).1 | exact heap_alloc_new _ _, by go_grown⟩ ?_
  rintro w2 ⟨k1, hq⟩
  have DG := Go.Lib.hid (show DgAt B R (p + 8200) w w1.heap.size n Rt xa ms.length xc w2 from ⟨DR.out.below hq, k1, (OwnN.nodes HOW.out).below hq, fun g hg => Nat.ne_of_lt (HK.out g hg), blk_lt DR.out.k0, by omega, by omega⟩)
  replace HOW := Go.Lib.hid (HOW.out.below hq)
  clear k1 hq DR HK
  obtain ⟨gb, hgb⟩ : ∃ k, w1.heap.size = k := ⟨_, rfl⟩
  rw [hgb] at DG ⊢
  clear hgb
  go_wp2_with fail
  refine (k_pick _ _ DG.out.dr.rd (by omega)).mono ?_
  rintro e w3 ⟨v, rfl, hv, hr, ho⟩
  have hv := hv (by omega)
  replace HOW := Go.Lib.hid (HOW.out.block (fun g h1 h2 _ => ho.block g h2 (by have := DG.out.dr.lt; omega)))
  replace DG := Go.Lib.hid (DG.out.only ho hr)
  clear hr ho
  by_cases hv0 : 0 < v
  · obtain ⟨V, hV⟩ : ∃ V, n = V := ⟨_, rfl⟩
    obtain ⟨xl, hxl⟩ : ∃ xl, ms.length = xl := ⟨_, rfl⟩
    rw [hV, hxl] at DG
    clear HOW
    have y0 := cell_of_block (i := 0) DG.out.bx (v := .int .i64 V) rfl
    have fy0 := free_of_block (i := 0) DG.out.bx
    have y1 := cell_of_block (i := 1) DG.out.bx (v := .slice xa xl xc) rfl
    have fy1 := free_of_block (i := 1) DG.out.bx
    have y2 := cell_of_block (i := 2) DG.out.bx (v := .int .i64 Rt) rfl
    have fy2 := free_of_block (i := 2) DG.out.bx
    have z0 := cell_of_block (i := 0) DG.out.dr.k0 (v := .int .i64 0) rfl
    have fz0 := free_of_block (i := 0) DG.out.dr.k0
    have z1 := cell_of_block (i := 1) DG.out.dr.k0 (v := .slice none 0 0) rfl
    have fz1 := free_of_block (i := 1) DG.out.dr.k0
    have z2 := cell_of_block (i := 2) DG.out.dr.k0 (v := .int .i64 0) rfl
    have fz2 := free_of_block (i := 2) DG.out.dr.k0
    go_wp2_with fail
    exact bodyPost_ret (v := .agg #[.int .i64 V, .slice xa xl xc, .int .i64 Rt]) (results_cell_row rfl _ _ w.heap.size 25 _ (0, 0) _ rfl (heap_setCell_same _ _ 2 _ _ _ (heap_setCell_same _ _ 1 _ _ _ (heap_setCell_same _ _ 0 _ _ _ DG.out.dr.k0))) Tryd.underlying25 rfl (by kernel_rfl)) rfl ⟨V, xa, xl, xc, Rt, rfl, (NodesV.same DG.out.nv (fun g hg _ _ => by rw [heap_setCell_other _ _ _ _ (by show g ≠ w.heap.size; omega), heap_setCell_other _ _ _ _ (by show g ≠ w.heap.size; omega), heap_setCell_other _ _ _ _ (by show g ≠ w.heap.size; omega)]) (by simp [World.setCell])).mono (Nat.le_succ _), DG.out.hl, DG.out.hv, (DG.out.dr.fin _ _ _).1.mono (by omega), (DG.out.dr.fin _ _ _).2⟩
  go_wp2_with fail
  refine (k_pick _ _ DG.out.dr.rd (by omega)).mono ?_
  rintro e w4 ⟨u, rfl, hu, hr, ho⟩
  have hu := hu (by omega)
  replace HOW := Go.Lib.hid (HOW.out.block (fun g h1 h2 _ => ho.block g h2 (by have := DG.out.dr.lt; omega)))
  replace DG := Go.Lib.hid (DG.out.only ho hr)
  clear hr ho hv hv0
  go_upto_if 18 with fail
  rename_i hvz K hK hu0
  have tail : ∀ (x1 x2 x3 x6 x7 x8 x9 x10 x11 x12 x13 x14 x15 x16 x17 x18 x19 x20 x21 x22 x23 x24 x25 x26 x27 x28 x29 x30 x31 x32 x33 x34 x35 x36 x37 x38 x39 x40 x41 x42 x43 x44 x45 x46 x47 x48 x49 x50 x51 x52 x53 x54 x55 x56 x57 x58 x59 x60 x61 x62 x63 x64 x65 x66 x67 x68 x69 x70 x71 x72 x73 x74 x75 x76 x77 x78 x79 x80 x81 x82 x83 x84 x85 x86 x87 x88 x89 x90 x91 x92 x93 x94 x95 x96 x97 x98 x99 x100 x101 x102 x103 x104 x105 x106 x107 x108 x109 x110 x111 x112 x113 x114 x115 x116 x117 x118 : Value) (wc : World), (∃ V Rz xz xl cz, DgAt B R (p + 8240) w gb V Rz xz xl cz wc) → K { tmps := #[.pointer (some ⟨R, 0, none⟩), x1, x2, x3, .pointer (some ⟨w.heap.size, 0, none⟩), .pointer (some ⟨gb, 0, none⟩), x6, x7, x8, x9, x10, x11, x12, x13, x14, x15, x16, x17, x18, x19, x20, x21, x22, x23, x24, x25, x26, x27, x28, x29, x30, x31, x32, x33, x34, x35, x36, x37, x38, x39, x40, x41, x42, x43, x44, x45, x46, x47, x48, x49, x50, x51, x52, x53, x54, x55, x56, x57, x58, x59, x60, x61, x62, x63, x64, x65, x66, x67, x68, x69, x70, x71, x72, x73, x74, x75, x76, x77, x78, x79, x80, x81, x82, x83, x84, x85, x86, x87, x88, x89, x90, x91, x92, x93, x94, x95, x96, x97, x98, x99, x100, x101, x102, x103, x104, x105, x106, x107, x108, x109, x110, x111, x112, x113, x114, x115, x116, x117, x118], defers := [] } wc := by
    intro x1 x2 x3 x6 x7 x8 x9 x10 x11 x12 x13 x14 x15 x16 x17 x18 x19 x20 x21 x22 x23 x24 x25 x26 x27 x28 x29 x30 x31 x32 x33 x34 x35 x36 x37 x38 x39 x40 x41 x42 x43 x44 x45 x46 x47 x48 x49 x50 x51 x52 x53 x54 x55 x56 x57 x58 x59 x60 x61 x62 x63 x64 x65 x66 x67 x68 x69 x70 x71 x72 x73 x74 x75 x76 x77 x78 x79 x80 x81 x82 x83 x84 x85 x86 x87 x88 x89 x90 x91 x92 x93 x94 x95 x96 x97 x98 x99 x100 x101 x102 x103 x104 x105 x106 x107 x108 x109 x110 x111 x112 x113 x114 x115 x116 x117 x118 wc hd
    obtain ⟨V, Rz, xz, xl, cz, hdg⟩ := hd
    refine hK _ _ ?_
    clear DG HOW hl hu
    have DG := Go.Lib.hid hdg
    clear hdg
    have hV := DG.out.hv
    have hxl := DG.out.hl
    have y0 := cell_of_block (i := 0) DG.out.bx (v := .int .i64 V) rfl
    have fy0 := free_of_block (i := 0) DG.out.bx
    have y1 := cell_of_block (i := 1) DG.out.bx (v := .slice xz xl cz) rfl
    have fy1 := free_of_block (i := 1) DG.out.bx
    have y2 := cell_of_block (i := 2) DG.out.bx (v := .int .i64 Rz) rfl
    have fy2 := free_of_block (i := 2) DG.out.bx
    by_cases hl0 : xl = 0
    · subst hl0
      have hl0i : ¬ (0 : Int) < ((0 : Nat) : Int) := by decide
      have z0 := cell_of_block (i := 0) DG.out.dr.k0 (v := .int .i64 0) rfl
      have fz0 := free_of_block (i := 0) DG.out.dr.k0
      have z1 := cell_of_block (i := 1) DG.out.dr.k0 (v := .slice none 0 0) rfl
      have fz1 := free_of_block (i := 1) DG.out.dr.k0
      have z2 := cell_of_block (i := 2) DG.out.dr.k0 (v := .int .i64 0) rfl
      have fz2 := free_of_block (i := 2) DG.out.dr.k0
      go_wp2_with fail
      exact bodyPost_ret (v := .agg #[.int .i64 V, .slice xz 0 cz, .int .i64 Rz]) (results_cell_row rfl _ _ w.heap.size 25 _ (0, 0) _ rfl (heap_setCell_same _ _ 2 _ _ _ (heap_setCell_same _ _ 1 _ _ _ (heap_setCell_same _ _ 0 _ _ _ DG.out.dr.k0))) Tryd.underlying25 rfl (by kernel_rfl)) rfl ⟨V, xz, 0, cz, Rz, rfl, (NodesV.same DG.out.nv (fun g hg _ _ => by rw [heap_setCell_other _ _ _ _ (by show g ≠ w.heap.size; omega), heap_setCell_other _ _ _ _ (by show g ≠ w.heap.size; omega), heap_setCell_other _ _ _ _ (by show g ≠ w.heap.size; omega)]) (by simp [World.setCell])).mono (Nat.le_succ _), DG.out.hl, DG.out.hv, (DG.out.dr.fin _ _ _).1.mono (by omega), (DG.out.dr.fin _ _ _).2⟩
    obtain ⟨g, rfl⟩ : ∃ g, xz = some ⟨g, 0, none⟩ := by
      rcases DG.out.nv with ⟨-, h, -⟩ | ⟨g, h, -⟩
      · exact absurd h hl0
      · exact ⟨g, h⟩
    have hl0i : (0 : Int) < (xl : Int) := by omega
    go_wp2_with fail
    refine (k_pick _ _ DG.out.dr.rd (by omega)).mono ?_
    rintro e w5 ⟨ki, rfl, hk0, hr, ho⟩
    obtain ⟨kn, hkn⟩ : ∃ kn : Nat, ki = kn := ⟨ki.toNat, by have := hk0 (by omega); omega⟩
    subst hkn
    have hk : kn < xl := by have := hk0 (by omega); omega
    have hki : (kn : Int) < xl := by omega
    replace DG := Go.Lib.hid (DG.out.only ho hr)
    clear hr ho hk0 y0 y1 y2 fy0 fy1 fy2
    go_wp2_with fail
    refine (k_pick _ _ DG.out.dr.rd (by omega)).mono ?_
    rintro e w6 ⟨u2, rfl, hu2, hr, ho⟩
    have hu2 := hu2 (by omega)
    replace DG := Go.Lib.hid ((DG.out.only ho hr).more (q' := p + 8242) (by omega))
    clear hr ho
    have y0 := cell_of_block (i := 0) DG.out.bx (v := .int .i64 V) rfl
    have y1 := cell_of_block (i := 1) DG.out.bx (v := .slice (some ⟨g, 0, none⟩) xl cz) rfl
    have y2 := cell_of_block (i := 2) DG.out.bx (v := .int .i64 Rz) rfl
    obtain ⟨⟨z0, hz0, x0⟩, fx0⟩ := DG.out.cell (j := kn * 3) (by omega)
    obtain ⟨⟨z1, hz1, x1⟩, fx1⟩ := DG.out.cell (j := kn * 3 + 1) (by omega)
    obtain ⟨⟨z2, hz2, x2⟩, fx2⟩ := DG.out.cell (j := kn * 3 + 2) (by omega)
    rcases (by omega : u2 = 0 ∨ u2 = 1 ∨ u2 = 2 ∨ u2 = 3 ∨ u2 = 4) with rfl | rfl | rfl | rfl | rfl
    · clear x1 fx1 x2 fx2
      have hwv : wrap64 (V + 3) = V + 3 := IntWalk.wrap64_in _ (by omega)
      have hwv2 : IntKind.i64.wrap (V + 3) = V + 3 := IntWalk.i64_in _ (by omega)
      go_upto_region 15 with fail
      go_region_with (first
        | (go_at_call 52; refine (k_pick (B := B) (R := R) (p := p + 8242) _ _ (by exact DG.out.dr.rd) (by omega)).mono ?_; rintro e wq ⟨r, rfl, hr0, hr, ho⟩; (try rw [hwv2] at hr0); have hr0 := hr0 (by omega); have ho2 := only_undrew ho; have DH := Go.Lib.hid (DG.out.only ho2 hr); clear ho ho2 hr y0 y1 y2 x0 fx0; have y0 := cell_of_block (i := 0) DH.out.bx (v := .int .i64 V) rfl; have y1 := cell_of_block (i := 1) DH.out.bx (v := .slice (some ⟨g, 0, none⟩) xl cz) rfl; have y2 := cell_of_block (i := 2) DH.out.bx (v := .int .i64 Rz) rfl; obtain ⟨⟨z0, hz0, x0⟩, fx0⟩ := DH.out.cell (j := kn * 3) (by omega)))
      all_goals
        go_upto_region 25 with fail
        refine code_gen (R := fun wb => DgAt B R (p + 8290) w gb V Rz (some ⟨g, 0, none⟩) xl cz wb) (by first | exact (DH.out.setN (x := kn * 3) (z := IntKind.i64.wrap (r - 1)) (by omega) (fits_wr (by omega))).more (by omega) | exact ((DH.out.setN (x := kn * 3) (z := IntKind.i64.wrap (r - 1)) (by omega) (fits_wr (by omega))).drew 1).more (by omega)) ?_
        clear y0 y1 y2 x0 fx0
        intro wz hz
        have DZ := Go.Lib.hid hz
        clear hz
        have y0 := cell_of_block (i := 0) DZ.out.bx (v := .int .i64 V) rfl
        have y1 := cell_of_block (i := 1) DZ.out.bx (v := .slice (some ⟨g, 0, none⟩) xl cz) rfl
        have y2 := cell_of_block (i := 2) DZ.out.bx (v := .int .i64 Rz) rfl
        have z0 := cell_of_block (i := 0) DZ.out.dr.k0 (v := .int .i64 0) rfl
        have fz0 := free_of_block (i := 0) DZ.out.dr.k0
        have z1 := cell_of_block (i := 1) DZ.out.dr.k0 (v := .slice none 0 0) rfl
        have fz1 := free_of_block (i := 1) DZ.out.dr.k0
        have z2 := cell_of_block (i := 2) DZ.out.dr.k0 (v := .int .i64 0) rfl
        have fz2 := free_of_block (i := 2) DZ.out.dr.k0
        go_wp2_with fail
        exact bodyPost_ret (v := .agg #[.int .i64 V, .slice (some ⟨g, 0, none⟩) xl cz, .int .i64 Rz]) (results_cell_row rfl _ _ w.heap.size 25 _ (0, 0) _ rfl (heap_setCell_same _ _ 2 _ _ _ (heap_setCell_same _ _ 1 _ _ _ (heap_setCell_same _ _ 0 _ _ _ DZ.out.dr.k0))) Tryd.underlying25 rfl (by kernel_rfl)) rfl ⟨V, some ⟨g, 0, none⟩, xl, cz, Rz, rfl, (NodesV.same DZ.out.nv (fun g hg _ _ => by rw [heap_setCell_other _ _ _ _ (by show g ≠ w.heap.size; omega), heap_setCell_other _ _ _ _ (by show g ≠ w.heap.size; omega), heap_setCell_other _ _ _ _ (by show g ≠ w.heap.size; omega)]) (by simp [World.setCell])).mono (Nat.le_succ _), DZ.out.hl, DZ.out.hv, (DZ.out.dr.fin _ _ _).1.mono (by omega), (DZ.out.dr.fin _ _ _).2⟩
    · clear x0 fx0
      go_upto_region 17 with fail
      go_region_law (fail)
      all_goals
        go_upto_region 25 with fail
        refine code_gen (R := fun wb => DgAt B R (p + 8290) w gb V Rz (some ⟨g, 0, none⟩) xl cz wb) (by first | exact ((DG.out.drew 1).setN (x := kn * 3 + 1) (z := z2) (by omega) hz2).more (by omega) | exact ((DG.out.setN (x := kn * 3 + 1) (z := z2) (by omega) hz2).drew 1).more (by omega) | exact (DG.out.setN (x := kn * 3 + 1) (z := z2) (by omega) hz2).more (by omega)) ?_
        clear y0 y1 y2 x1 fx1 x2 fx2
        intro wz hz
        have DZ := Go.Lib.hid hz
        clear hz
        have y0 := cell_of_block (i := 0) DZ.out.bx (v := .int .i64 V) rfl
        have y1 := cell_of_block (i := 1) DZ.out.bx (v := .slice (some ⟨g, 0, none⟩) xl cz) rfl
        have y2 := cell_of_block (i := 2) DZ.out.bx (v := .int .i64 Rz) rfl
        have z0 := cell_of_block (i := 0) DZ.out.dr.k0 (v := .int .i64 0) rfl
        have fz0 := free_of_block (i := 0) DZ.out.dr.k0
        have z1 := cell_of_block (i := 1) DZ.out.dr.k0 (v := .slice none 0 0) rfl
        have fz1 := free_of_block (i := 1) DZ.out.dr.k0
        have z2 := cell_of_block (i := 2) DZ.out.dr.k0 (v := .int .i64 0) rfl
        have fz2 := free_of_block (i := 2) DZ.out.dr.k0
        go_wp2_with fail
        exact bodyPost_ret (v := .agg #[.int .i64 V, .slice (some ⟨g, 0, none⟩) xl cz, .int .i64 Rz]) (results_cell_row rfl _ _ w.heap.size 25 _ (0, 0) _ rfl (heap_setCell_same _ _ 2 _ _ _ (heap_setCell_same _ _ 1 _ _ _ (heap_setCell_same _ _ 0 _ _ _ DZ.out.dr.k0))) Tryd.underlying25 rfl (by kernel_rfl)) rfl ⟨V, some ⟨g, 0, none⟩, xl, cz, Rz, rfl, (NodesV.same DZ.out.nv (fun g hg _ _ => by rw [heap_setCell_other _ _ _ _ (by show g ≠ w.heap.size; omega), heap_setCell_other _ _ _ _ (by show g ≠ w.heap.size; omega), heap_setCell_other _ _ _ _ (by show g ≠ w.heap.size; omega)]) (by simp [World.setCell])).mono (Nat.le_succ _), DZ.out.hl, DZ.out.hv, (DZ.out.dr.fin _ _ _).1.mono (by omega), (DZ.out.dr.fin _ _ _).2⟩
    · clear x1 fx1 x0 fx0
      have hwv : wrap64 ((xl : Int) + 3) = (xl : Int) + 3 := IntWalk.wrap64_in _ (by omega)
      have hwv2 : IntKind.i64.wrap ((xl : Int) + 3) = (xl : Int) + 3 := IntWalk.i64_in _ (by omega)
      go_upto_region 19 with fail
      go_region_with (first
        | (go_at_call 52; refine (k_pick (B := B) (R := R) (p := p + 8242) _ _ (by exact DG.out.dr.rd) (by omega)).mono ?_; rintro e wq ⟨r, rfl, hr0, hr, ho⟩; (try rw [hwv2] at hr0); have hr0 := hr0 (by omega); have ho2 := only_undrew ho; have DH := Go.Lib.hid (DG.out.only ho2 hr); clear ho ho2 hr y0 y1 y2 x2 fx2; have y0 := cell_of_block (i := 0) DH.out.bx (v := .int .i64 V) rfl; have y1 := cell_of_block (i := 1) DH.out.bx (v := .slice (some ⟨g, 0, none⟩) xl cz) rfl; have y2 := cell_of_block (i := 2) DH.out.bx (v := .int .i64 Rz) rfl; obtain ⟨⟨z2, hz2, x2⟩, fx2⟩ := DH.out.cell (j := kn * 3 + 2) (by omega)))
      all_goals
        go_upto_region 25 with fail
        refine code_gen (R := fun wb => DgAt B R (p + 8290) w gb V Rz (some ⟨g, 0, none⟩) xl cz wb) (by first | exact (DH.out.setN (x := kn * 3 + 2) (z := r) (by omega) (WalkArith.wf_i64 (by omega))).more (by omega) | exact ((DH.out.setN (x := kn * 3 + 2) (z := r) (by omega) (WalkArith.wf_i64 (by omega))).drew 1).more (by omega)) ?_
        clear y0 y1 y2 x2 fx2
        intro wz hz
        have DZ := Go.Lib.hid hz
        clear hz
        have y0 := cell_of_block (i := 0) DZ.out.bx (v := .int .i64 V) rfl
        have y1 := cell_of_block (i := 1) DZ.out.bx (v := .slice (some ⟨g, 0, none⟩) xl cz) rfl
        have y2 := cell_of_block (i := 2) DZ.out.bx (v := .int .i64 Rz) rfl
        have z0 := cell_of_block (i := 0) DZ.out.dr.k0 (v := .int .i64 0) rfl
        have fz0 := free_of_block (i := 0) DZ.out.dr.k0
        have z1 := cell_of_block (i := 1) DZ.out.dr.k0 (v := .slice none 0 0) rfl
        have fz1 := free_of_block (i := 1) DZ.out.dr.k0
        have z2 := cell_of_block (i := 2) DZ.out.dr.k0 (v := .int .i64 0) rfl
        have fz2 := free_of_block (i := 2) DZ.out.dr.k0
        go_wp2_with fail
        exact bodyPost_ret (v := .agg #[.int .i64 V, .slice (some ⟨g, 0, none⟩) xl cz, .int .i64 Rz]) (results_cell_row rfl _ _ w.heap.size 25 _ (0, 0) _ rfl (heap_setCell_same _ _ 2 _ _ _ (heap_setCell_same _ _ 1 _ _ _ (heap_setCell_same _ _ 0 _ _ _ DZ.out.dr.k0))) Tryd.underlying25 rfl (by kernel_rfl)) rfl ⟨V, some ⟨g, 0, none⟩, xl, cz, Rz, rfl, (NodesV.same DZ.out.nv (fun g hg _ _ => by rw [heap_setCell_other _ _ _ _ (by show g ≠ w.heap.size; omega), heap_setCell_other _ _ _ _ (by show g ≠ w.heap.size; omega), heap_setCell_other _ _ _ _ (by show g ≠ w.heap.size; omega)]) (by simp [World.setCell])).mono (Nat.le_succ _), DZ.out.hl, DZ.out.hv, (DZ.out.dr.fin _ _ _).1.mono (by omega), (DZ.out.dr.fin _ _ _).2⟩
    · clear fx0 fx1 fx2 x0 x1 x2
      go_wp2_with fail
      refine (k_pick _ _ DG.out.dr.rd (by omega)).mono ?_
      rintro e w7 ⟨ji, rfl, hj0, hr, ho⟩
      obtain ⟨jn, hjn⟩ : ∃ jn : Nat, ji = jn := ⟨ji.toNat, by have := hj0 (by omega); omega⟩
      subst hjn
      have hj : jn < xl := by have := hj0 (by omega); omega
      have hji : (jn : Int) < xl := by omega
      replace DG := Go.Lib.hid (DG.out.only ho hr)
      clear hr ho hj0 y0 y1 y2 hz0 hz1 hz2
      have y1 := cell_of_block (i := 1) DG.out.bx (v := .slice (some ⟨g, 0, none⟩) xl cz) rfl
      obtain ⟨⟨a0, ha0, x0⟩, -⟩ := DG.out.cell (j := kn * 3) (by omega)
      obtain ⟨⟨a1, ha1, x1⟩, -⟩ := DG.out.cell (j := kn * 3 + 1) (by omega)
      obtain ⟨⟨a2, ha2, x2⟩, -⟩ := DG.out.cell (j := kn * 3 + 2) (by omega)
      go_upto_region 23 with fail
      refine code_gen (R := fun wb => wb.heap[w7.heap.size]? = some (.cells #[.int .i64 a0, .int .i64 a1, .int .i64 a2] 67 (0, 0)) ∧ DgAt B R (p + 8250) w gb V Rz (some ⟨g, 0, none⟩) xl cz wb) ⟨by first | exact (MapKept.heap_alloc _ _).1 | exact heap_alloc_new _ _, (DG.out.below (by go_grown)).more (by omega)⟩ ?_
      have HNE := Go.Lib.hid (show w7.heap.size ≠ g from by have := DG.out.there.2; omega)
      clear x0 x1 x2 y1 DG
      rintro w8 ⟨k8, d8⟩
      obtain ⟨b8, hb8⟩ : ∃ k, w7.heap.size = k := ⟨_, rfl⟩
      rw [hb8] at k8 HNE ⊢
      have HK := Go.Lib.hid k8
      have DG := Go.Lib.hid d8
      clear k8 d8 hb8
      have y1 := cell_of_block (i := 1) DG.out.bx (v := .slice (some ⟨g, 0, none⟩) xl cz) rfl
      obtain ⟨⟨s0, hs0, q0⟩, -⟩ := DG.out.cell (j := jn * 3) (by omega)
      obtain ⟨⟨s1, hs1, q1⟩, -⟩ := DG.out.cell (j := jn * 3 + 1) (by omega)
      obtain ⟨⟨s2, hs2, q2⟩, -⟩ := DG.out.cell (j := jn * 3 + 2) (by omega)
      obtain ⟨⟨t0, ht0, x0⟩, fx0⟩ := DG.out.cell (j := kn * 3) (by omega)
      obtain ⟨⟨t1, ht1, x1⟩, fx1⟩ := DG.out.cell (j := kn * 3 + 1) (by omega)
      obtain ⟨⟨t2, ht2, x2⟩, fx2⟩ := DG.out.cell (j := kn * 3 + 2) (by omega)
      go_region_law (fail)
      all_goals
        go_upto_region 24 with fail
        refine code_gen (R := fun wb => wb.heap[b8]? = some (.cells #[.int .i64 a0, .int .i64 a1, .int .i64 a2] 67 (0, 0)) ∧ DgAt B R (p + 8260) w gb V Rz (some ⟨g, 0, none⟩) xl cz wb) (by first | exact ⟨setS_other HK.out HNE.out, (((DG.out.drew 1).setS hk hs0 hs1 hs2)).more (by omega)⟩ | exact ⟨setS_other HK.out HNE.out, ((DG.out.setS hk hs0 hs1 hs2)).more (by omega)⟩ | exact ⟨setS_other HK.out HNE.out, ((DG.out.setS hk hs0 hs1 hs2).drew 1).more (by omega)⟩) ?_
        clear x0 x1 x2 fx0 fx1 fx2 q0 q1 q2 y1 DG HK
        rintro w9 ⟨k9, d9⟩
        have DG := Go.Lib.hid d9
        clear d9
        have y1 := cell_of_block (i := 1) DG.out.bx (v := .slice (some ⟨g, 0, none⟩) xl cz) rfl
        have q0 := cell_of_block (i := 0) k9 (v := .int .i64 a0) rfl
        have q1 := cell_of_block (i := 1) k9 (v := .int .i64 a1) rfl
        have q2 := cell_of_block (i := 2) k9 (v := .int .i64 a2) rfl
        obtain ⟨⟨t0, ht0, x0⟩, fx0⟩ := DG.out.cell (j := jn * 3) (by omega)
        obtain ⟨⟨t1, ht1, x1⟩, fx1⟩ := DG.out.cell (j := jn * 3 + 1) (by omega)
        obtain ⟨⟨t2, ht2, x2⟩, fx2⟩ := DG.out.cell (j := jn * 3 + 2) (by omega)
        clear k9
        go_upto_region 25 with fail
        refine code_gen (R := fun wb => DgAt B R (p + 8290) w gb V Rz (some ⟨g, 0, none⟩) xl cz wb) (by exact (DG.out.setS hj ha0 ha1 ha2).more (by omega)) ?_
        clear x0 x1 x2 fx0 fx1 fx2 q0 q1 q2 y1 DG
        intro wz hz
        have DZ := Go.Lib.hid hz
        clear hz
        have y0 := cell_of_block (i := 0) DZ.out.bx (v := .int .i64 V) rfl
        have y1 := cell_of_block (i := 1) DZ.out.bx (v := .slice (some ⟨g, 0, none⟩) xl cz) rfl
        have y2 := cell_of_block (i := 2) DZ.out.bx (v := .int .i64 Rz) rfl
        have z0 := cell_of_block (i := 0) DZ.out.dr.k0 (v := .int .i64 0) rfl
        have fz0 := free_of_block (i := 0) DZ.out.dr.k0
        have z1 := cell_of_block (i := 1) DZ.out.dr.k0 (v := .slice none 0 0) rfl
        have fz1 := free_of_block (i := 1) DZ.out.dr.k0
        have z2 := cell_of_block (i := 2) DZ.out.dr.k0 (v := .int .i64 0) rfl
        have fz2 := free_of_block (i := 2) DZ.out.dr.k0
        go_wp2_with fail
        exact bodyPost_ret (v := .agg #[.int .i64 V, .slice (some ⟨g, 0, none⟩) xl cz, .int .i64 Rz]) (results_cell_row rfl _ _ w.heap.size 25 _ (0, 0) _ rfl (heap_setCell_same _ _ 2 _ _ _ (heap_setCell_same _ _ 1 _ _ _ (heap_setCell_same _ _ 0 _ _ _ DZ.out.dr.k0))) Tryd.underlying25 rfl (by kernel_rfl)) rfl ⟨V, some ⟨g, 0, none⟩, xl, cz, Rz, rfl, (NodesV.same DZ.out.nv (fun g hg _ _ => by rw [heap_setCell_other _ _ _ _ (by show g ≠ w.heap.size; omega), heap_setCell_other _ _ _ _ (by show g ≠ w.heap.size; omega), heap_setCell_other _ _ _ _ (by show g ≠ w.heap.size; omega)]) (by simp [World.setCell])).mono (Nat.le_succ _), DZ.out.hl, DZ.out.hv, (DZ.out.dr.fin _ _ _).1.mono (by omega), (DZ.out.dr.fin _ _ _).2⟩
    · go_upto_region 25 with fail
      have z0 := cell_of_block (i := 0) DG.out.dr.k0 (v := .int .i64 0) rfl
      have fz0 := free_of_block (i := 0) DG.out.dr.k0
      have z1 := cell_of_block (i := 1) DG.out.dr.k0 (v := .slice none 0 0) rfl
      have fz1 := free_of_block (i := 1) DG.out.dr.k0
      have z2 := cell_of_block (i := 2) DG.out.dr.k0 (v := .int .i64 0) rfl
      have fz2 := free_of_block (i := 2) DG.out.dr.k0
      go_wp2_with fail
      exact bodyPost_ret (v := .agg #[.int .i64 V, .slice (some ⟨g, 0, none⟩) xl cz, .int .i64 Rz]) (results_cell_row rfl _ _ w.heap.size 25 _ (0, 0) _ rfl (heap_setCell_same _ _ 2 _ _ _ (heap_setCell_same _ _ 1 _ _ _ (heap_setCell_same _ _ 0 _ _ _ DG.out.dr.k0))) Tryd.underlying25 rfl (by kernel_rfl)) rfl ⟨V, some ⟨g, 0, none⟩, xl, cz, Rz, rfl, (NodesV.same DG.out.nv (fun g hg _ _ => by rw [heap_setCell_other _ _ _ _ (by show g ≠ w.heap.size; omega), heap_setCell_other _ _ _ _ (by show g ≠ w.heap.size; omega), heap_setCell_other _ _ _ _ (by show g ≠ w.heap.size; omega)]) (by simp [World.setCell])).mono (Nat.le_succ _), DG.out.hl, DG.out.hv, (DG.out.dr.fin _ _ _).1.mono (by omega), (DG.out.dr.fin _ _ _).2⟩

  have HT := Go.Lib.hid tail
  clear tail hK
  have y0 := cell_of_block (i := 0) DG.out.bx (v := .int .i64 n) rfl
  have fy0 := free_of_block (i := 0) DG.out.bx
  have y1 := cell_of_block (i := 1) DG.out.bx (v := .slice xa ms.length xc) rfl
  have fy1 := free_of_block (i := 1) DG.out.bx
  have y2 := cell_of_block (i := 2) DG.out.bx (v := .int .i64 Rt) rfl
  rcases (by omega : u = 0 ∨ u = 1 ∨ u = 2 ∨ 3 ≤ u) with rfl | rfl | rfl | hu3
  · go_wp2_with fail
    refine (k_pick _ _ DG.out.dr.rd (by omega)).mono ?_
    rintro e w5 ⟨r, rfl, hr0, hr, ho⟩
    have hr0 := hr0 (by omega)
    replace DG := Go.Lib.hid (DG.out.only ho hr)
    clear hr ho y0 y1 y2 fy0 fy1 HOW
    have y1 := cell_of_block (i := 1) DG.out.bx (v := .slice xa ms.length xc) rfl
    have y2 := cell_of_block (i := 2) DG.out.bx (v := .int .i64 Rt) rfl
    have fy2 := free_of_block (i := 2) DG.out.bx
    go_wp2_with fail
    exact HT.out _ _ _ _ _ _ _ _ _ _ _ _ _ _ _ _ _ _ _ _ _ _ _ _ _ _ _ _ _ _ _ _ _ _ _ _ _ _ _ _ _ _ _ _ _ _ _ _ _ _ _ _ _ _ _ _ _ _ _ _ _ _ _ _ _ _ _ _ _ _ _ _ _ _ _ _ _ _ _ _ _ _ _ _ _ _ _ _ _ _ _ _ _ _ _ _ _ _ _ _ _ _ _ _ _ _ _ _ _ _ _ _ _ _ _ _ _ ⟨n, (r - 1), xa, ms.length, xc, DG.out.setR.more (by omega)⟩
  · have hwv : wrap64 (n + 1) = n + 1 := IntWalk.wrap64_in _ (by omega)
    go_wp2_with fail
    exact HT.out _ _ _ _ _ _ _ _ _ _ _ _ _ _ _ _ _ _ _ _ _ _ _ _ _ _ _ _ _ _ _ _ _ _ _ _ _ _ _ _ _ _ _ _ _ _ _ _ _ _ _ _ _ _ _ _ _ _ _ _ _ _ _ _ _ _ _ _ _ _ _ _ _ _ _ _ _ _ _ _ _ _ _ _ _ _ _ _ _ _ _ _ _ _ _ _ _ _ _ _ _ _ _ _ _ _ _ _ _ _ _ _ _ _ _ _ _ ⟨(n + 1), Rt, xa, ms.length, xc, (DG.out.setV (by omega)).more (by omega)⟩
  · have HGL := Go.Lib.hid (blk_lt DG.out.bx)
    have HBS := Go.Lib.hid (show w.heap.size + 1 ≤ w4.heap.size from blk_lt DG.out.dr.k0)
    have hms9 : (ms.length : Int) ≤ 9223372036854775807 := by omega
    go_wp2_with (first | (at_builtin; go_loud (refine wpList_append_own_at _ rfl _ _ 23 rfl (w.heap.size + 1) 67 i1 (.agg #[.int .i64 0, .int .i64 0, .int .i64 0]) 3 24 Tryd.underlying23 HI1.out HZ01.out HZ11.out HZ21.out rfl (by decide) (.slice xa ms.length xc) ms.length _ rfl (HOW.out.1.alloc _) ⟨w4.heap.size, 0, none⟩ 1 1 [.int .i64 0, .int .i64 0, .int .i64 1] rfl rfl (bn_new ⟨0, 0, 1⟩ w4) (bn_one ⟨0, 0, 1⟩) (by unfold maxLen; omega) (by omega) (by simp; have := HBS.out; omega) ?_; intro v' w5 hown' hgrow' hnil hloc); obtain ⟨xa', xc', hv', hO'⟩ := own_more HOW.out hown'; subst hv'; have HQ := Go.Lib.hid (DG.out.app HOW.out hl hgrow' hO' (own_new hgrow' hloc)); have v5 := cell_of_block (i := 1) (own_box DG.out HOW.out hgrow') (v := .slice xa ms.length xc) rfl; have r5 := free_of_block (i := 1) (own_box DG.out HOW.out hgrow'); clear hown' hgrow' hnil hloc hO' y0 y1 y2 fy0 fy1) | go_in)
    exact HT.out _ _ _ _ _ _ _ _ _ _ _ _ _ _ _ _ _ _ _ _ _ _ _ _ _ _ _ _ _ _ _ _ _ _ _ _ _ _ _ _ _ _ _ _ _ _ _ _ _ _ _ _ _ _ _ _ _ _ _ _ _ _ _ _ _ _ _ _ _ _ _ _ _ _ _ _ _ _ _ _ _ _ _ _ _ _ _ _ _ _ _ _ _ _ _ _ _ _ _ _ _ _ _ _ _ _ _ _ _ _ _ _ _ _ _ _ _ ⟨n, Rt, xa', (ms.length + 1), xc', HQ.out.more (by omega)⟩
  · have e0 : (u == 0) = false := by simp; omega
    have e1 : (u == 1) = false := by simp; omega
    have e2 : (u == 2) = false := by simp; omega
    have e3 : ¬ u = 0 := by omega
    have e4 : ¬ u = 1 := by omega
    have e5 : ¬ u = 2 := by omega
    go_wp2_with fail
    clear e0 e1 e2 e3 e4 e5
    exact HT.out _ _ _ _ _ _ _ _ _ _ _ _ _ _ _ _ _ _ _ _ _ _ _ _ _ _ _ _ _ _ _ _ _ _ _ _ _ _ _ _ _ _ _ _ _ _ _ _ _ _ _ _ _ _ _ _ _ _ _ _ _ _ _ _ _ _ _ _ _ _ _ _ _ _ _ _ _ _ _ _ _ _ _ _ _ _ _ _ _ _ _ _ _ _ _ _ _ _ _ _ _ _ _ _ _ _ _ _ _ _ _ _ _ _ _ _ _ ⟨n, Rt, xa, ms.length, xc, DG.out.more (by omega)⟩
end Go.Proofs.YthdofdglbdfkkaaDoor
