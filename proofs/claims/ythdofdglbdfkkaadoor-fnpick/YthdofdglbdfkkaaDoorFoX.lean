/-
  The door: a diagram that grows too large is caught.
-/
import Derived.Test.YthdofdglbdfkkaaDoorRows
import Derived.Test.YthdofdglbdfkkaaDoorFoT
import Derived.Test.YthdofdglbdfkkaaDoorFoV
import Derived.WalkKit
import Derived.ProofKit
import Derived.OpenShut
import Derived.WalkSpells
import Derived.WalkLawsBesides
import Derived.Outline
import Derived.BigQuiet
import Derived.Handy
import Derived.LoopTactic
import Derived.Deep.Light
import Derived.Deep.RegionWith
import Derived.Deep.RegionHeld3
import Derived.Deep.DeepCutAuto
import Derived.Lib.Hide
import Derived.Maps.OwnRows
import Derived.Deep.Onto
import Derived.OneCell
import Derived.StillTailTactics
import Derived.Deep.AppendLies
import Derived.Deep.RegionLaw
import Derived.Defers
import Derived.Recover
namespace Go.Proofs.YthdofdglbdfkkaaDoor
open Go.ChangeShapes Go.WideShapes Go.ChangeAt Go.RowKit Go.Maps Go.ChangeMaps
set_option linter.unusedVariables false
set_option maxRecDepth 100000

/-- The deferred closure of a frame that panics. -/
theorem catch_panicking (p q : Nat) (x y : Value) (u : TypeId) (pv : Value) (older : List PanicEntry) (w : World) (hc : w.cell? ⟨p, 0, none⟩ = some x) (hz : w.frozen? ⟨p, 0, none⟩ = false) (hq : w.cell? ⟨q, 0, none⟩ = some y) (hf : w.frozen? ⟨q, 0, none⟩ = false) (hpq : p ≠ q) :
    CallsD Tryd.prog 93 #[.pointer (some ⟨p, 0, none⟩), .pointer (some ⟨q, 0, none⟩)] (.panicking ({ v := .iface u pv, recovered := false } :: older)) w fun e u' w' =>
      e = .returned (.tuple #[]) ∧ u' = .panicking ({ v := .iface u pv, recovered := true } :: older) ∧ w' = (w.setCell ⟨p, 0, none⟩ (.slice none 0 0)).setCell ⟨q, 0, none⟩ (.bool false) := by
  have hq' : (w.setCell ⟨p, 0, none⟩ (.slice none 0 0)).cell? ⟨q, 0, none⟩ = some y := (World.cell?_setCell_other _ _ _ _ (by first | (simp; done) | (simp; omega))).trans hq
  have hf' : (w.setCell ⟨p, 0, none⟩ (.slice none 0 0)).frozen? ⟨q, 0, none⟩ = false := by simpa using hf
  refine callsD_of_wpS Tryd.func93 rfl fun c₀ cs hu => ?_
  apply wpS_seq
  apply wpS_region
  simp [wpOpsS, go_sem, recoverD, hu, Tryd.ntmps93, Exit.thenS]
  refine wpS_cond (t := true) (by simp [Act.eval, Array.replicate]) ?_
  simp only [if_true]
  apply wpS_region
  simp [wpOpsS, go_sem, hc, hz, hq', hf', bodyPostS, results, Tryd.results93]

/-- .. of one that returns. -/
theorem catch_idle (p q : Nat) (w : World) :
    CallsD Tryd.prog 93 #[.pointer (some ⟨p, 0, none⟩), .pointer (some ⟨q, 0, none⟩)] .returning w fun e u' w' => e = .returned (.tuple #[]) ∧ u' = .returning ∧ w' = w := by
  refine callsD_of_wpS Tryd.func93 rfl fun c₀ cs hu => ?_
  apply wpS_seq
  apply wpS_region
  simp [wpOpsS, go_sem, recoverD, hu, Tryd.ntmps93, Exit.thenS]
  refine wpS_cond (t := false) (by simp [Act.eval, Array.replicate]) ?_
  simp only [Bool.false_eq_true, if_false]
  refine wpS_of_wp (wp_skip ?_)
  cases c₀
  simp_all [bodyPostS, results, Tryd.results93]
theorem results_two {tmps : Array Value} {p q : Nat} {x y : Value} {w : World} (h4 : tmps.getD 4 undef = .pointer (some ⟨p, 0, none⟩)) (h5 : tmps.getD 5 undef = .pointer (some ⟨q, 0, none⟩)) (hp : w.cell? ⟨p, 0, none⟩ = some x) (hq : w.cell? ⟨q, 0, none⟩ = some y) :
    (results Tryd.f78 tmps).run Tryd.prog w = .ok (.tuple #[x, y]) w := by
  have h4' : tmps[4]?.getD undef = .pointer (some ⟨p, 0, none⟩) := by simpa using h4
  have h5' : tmps[5]?.getD undef = .pointer (some ⟨q, 0, none⟩) := by simpa using h5
  simp [results, Tryd.results78, h4', h5', asAddr, hp, hq, go_sem]
theorem door_idle {R : Ending → World → Prop} {tmps : Array Value} {p q : Nat} {x y : Value} {w : World} (h4 : tmps.getD 4 undef = .pointer (some ⟨p, 0, none⟩)) (h5 : tmps.getD 5 undef = .pointer (some ⟨q, 0, none⟩)) (hp : w.cell? ⟨p, 0, none⟩ = some x) (hq : w.cell? ⟨q, 0, none⟩ = some y) (hR : R (.returned (.tuple #[x, y])) w) :
    Leaves Tryd.prog Tryd.f78 tmps R [{ target := Target.fn (Fn.func 93) #[.pointer (some ⟨p, 0, none⟩), .pointer (some ⟨q, 0, none⟩)], args := #[] }] .returning w := by
  refine leaves_cons (f := 93) (args := #[.pointer (some ⟨p, 0, none⟩), .pointer (some ⟨q, 0, none⟩)]) (by simp) (by simp [go_sem]) ?_
  refine (catch_idle p q w).mono ?_
  rintro e u' w'' ⟨rfl, rfl, rfl⟩
  exact ⟨_, results_two h4 h5 hp hq, hR⟩
theorem door_panic {R : Ending → World → Prop} {tmps : Array Value} {p q : Nat} {x y : Value} {u : TypeId} {pv : Value} {w : World} (h4 : tmps.getD 4 undef = .pointer (some ⟨p, 0, none⟩)) (h5 : tmps.getD 5 undef = .pointer (some ⟨q, 0, none⟩)) (hp : w.heap[p]? = some (.cells #[x] 83 (0, 0))) (hq : w.heap[q]? = some (.cells #[y] 4 (0, 0))) (hpq : p ≠ q)
    (hR : R (.returned (.tuple #[.slice none 0 0, .bool false])) ((w.setCell ⟨p, 0, none⟩ (.slice none 0 0)).setCell ⟨q, 0, none⟩ (.bool false))) :
    Leaves Tryd.prog Tryd.f78 tmps R [{ target := Target.fn (Fn.func 93) #[.pointer (some ⟨p, 0, none⟩), .pointer (some ⟨q, 0, none⟩)], args := #[] }] (.panicking [{ v := .iface u pv, recovered := false }]) w := by
  refine leaves_cons (f := 93) (args := #[.pointer (some ⟨p, 0, none⟩), .pointer (some ⟨q, 0, none⟩)]) (by simp) (by simp [go_sem]) ?_
  refine (catch_panicking p q x y u pv [] w (cell_of_block (i := 0) hp rfl) (free_of_block (i := 0) hp) (cell_of_block (i := 0) hq rfl) (free_of_block (i := 0) hq) hpq).mono ?_
  rintro e u' w'' ⟨rfl, rfl, rfl⟩
  have e1 : (w.setCell ⟨p, 0, none⟩ (.slice none 0 0)).heap[p]? = some (.cells (#[x].setIfInBounds 0 (.slice none 0 0)) 83 (0, 0)) := heap_setCell_same _ _ 0 _ _ _ hp
  have e2 : ((w.setCell ⟨p, 0, none⟩ (.slice none 0 0)).setCell ⟨q, 0, none⟩ (.bool false)).heap[p]? = some (.cells (#[x].setIfInBounds 0 (.slice none 0 0)) 83 (0, 0)) := (heap_setCell_other _ _ _ _ hpq).trans e1
  have e3 : ((w.setCell ⟨p, 0, none⟩ (.slice none 0 0)).setCell ⟨q, 0, none⟩ (.bool false)).heap[q]? = some (.cells (#[y].setIfInBounds 0 (.bool false)) 4 (0, 0)) := heap_setCell_same _ _ 0 _ _ _ ((heap_setCell_other _ _ _ _ (fun e => hpq e.symm)).trans hq)
  exact ⟨_, results_two h4 h5 (cell_of_block (i := 0) e2 rfl) (cell_of_block (i := 0) e3 rfl), hR⟩
theorem heap_snd (w : World) (o o' : Obj) : ((w.alloc o).alloc o').heap[w.heap.size + 1]? = some o' := by
  have e : w.heap.size + 1 = (w.alloc o).heap.size := by show _ = (w.heap.push _).size; simp
  rw [e]
  exact (MapKept.heap_alloc _ _).1
theorem bddInfo : (Tryd.prog.info? 25).map (fun i => (i.zero, i.size, i.bytes)) = some (some (.agg #[.int .i64 0, .slice none 0 0, .int .i64 0]), 3, 40) := by kernel_rfl
/-- What the closure that is handed to the door hands back: one place. -/
def RootQ (vars : Int) (fb mb pb : Nat) (v : Value) (f : Int → Bool) (w : World) (e : Ending) (w' : World) : Prop :=
  ∃ p v' F' np' rb, e = .returned (.slice (some ⟨rb, 0, none⟩) 1 1) ∧ w'.cell? ⟨rb, 0, none⟩ = some (.int .i64 p) ∧ ForestAt vars fb mb pb v' F' np' w' ∧ InF F' p ∧ (∀ c, 0 ≤ c → c < 2 ^ vars.toNat → evF F' p c = f c) ∧ FStep fb mb pb v w v' w' ∧ F'.length ≤ 900000
/-- The answers, whole. -/
def AnsL (vars : Int) (f : Int → Bool) (w : World) (e : Ending) (w' : World) : Prop :=
  ∃ t : DT, t.Red vars 0 ∧ (∀ c, 0 ≤ c → c < 2 ^ vars.toNat → t.ev c = f c) ∧ Below w.heap.size w w' ∧
    ((∃ g cap x ms R, e = .returned (.tuple #[.slice (some ⟨g, 0, none⟩) 1 cap, .bool true]) ∧ w'.cell? ⟨g, 0, none⟩ = some (.int .i64 vars) ∧ w'.cell? ⟨g, 1, none⟩ = some x ∧ w'.cell? ⟨g, 2, none⟩ = some (.int .i64 R) ∧ OwnN w' w.heap.size x ms ∧ Adds t [] ms R ∧ ms.length ≤ 600) ∨
      (e = .returned (.tuple #[.slice none 0 0, .bool false]) ∧ ∀ ms R, Adds t [] ms R → 600 < ms.length))

/-- One answer is appended, or not yet. -/
def LoopR (vars : Int) (t : DT) (w w2 : World) (q : Value) (wr : World) : Prop :=
  (q = .int .i64 0 ∧ wr = w2) ∨ (q = .int .i64 1 ∧ ∃ g cap x ms R, wr.heap[w.heap.size]? = some (.cells #[.slice (some ⟨g, 0, none⟩) 1 cap] 83 (0, 0)) ∧ wr.heap[w.heap.size + 1]? = some (.cells #[.bool false] 4 (0, 0)) ∧ (w.heap.size + 1 < g ∧ wr.cell? ⟨g, 0, none⟩ = some (.int .i64 vars) ∧ wr.cell? ⟨g, 1, none⟩ = some x ∧ wr.cell? ⟨g, 2, none⟩ = some (.int .i64 R)) ∧ OwnN wr (w.heap.size + 2) x ms ∧ Adds t [] ms R ∧ ms.length ≤ 600 ∧ Below w.heap.size w wr)

theorem leaves_same {P : Program} {fn : Func} {R : Ending → World → Prop} {t t' : Array Value} (h : ∀ w, (results fn t).run P w = (results fn t').run P w) : ∀ (ds : List Deferred) (u : FrameMode) (w : World), Leaves P fn t R ds u w → Leaves P fn t' R ds u w := by
  intro ds
  induction ds with
  | nil =>
    intro u w hl
    cases u with
    | returning => obtain ⟨v, hr, hR⟩ := hl; exact ⟨v, (h w).symm.trans hr, hR⟩
    | panicking c => exact hl
    | run => exact hl
  | cons d ds ih =>
    intro u w hl
    obtain ⟨h1, fv, cap, f, args, h2, h3, h4⟩ := hl
    refine ⟨h1, fv, cap, f, args, h2, h3, h4.mono ?_⟩
    intro e u' w' he
    cases e with
    | returned v => exact ih _ _ he
    | panicked c => exact ih _ _ he
    | outgrown => exact he
theorem door_put {R : Ending → World → Prop} (d : Nat) (h4 : d ≠ 4) (h5 : d ≠ 5) (v : Value) (c : List PanicEntry) (a : Act) (w : World) (h : bodyPostD Tryd.prog Tryd.f78 R (.panic c) (a.put (some d) v) w) : bodyPostD Tryd.prog Tryd.f78 R (.panic c) a w := by
  refine leaves_same (t := (a.put (some d) v).tmps) (fun w' => ?_) a.defers (.panicking c) w h
  have e4 : (a.tmps.setIfInBounds d v)[4]?.getD undef = a.tmps[4]?.getD undef := by rw [Array.getElem?_setIfInBounds_ne h4]
  have e5 : (a.tmps.setIfInBounds d v)[5]?.getD undef = a.tmps[5]?.getD undef := by rw [Array.getElem?_setIfInBounds_ne h5]
  simp [results, Tryd.results78, Act.put, e4, e5]
theorem far0 {w w4 : World} {o : Obj} {k : Nat} (hg : (w.alloc o).grownBy w4 (Value.slice none 0 0).ownBlock) (hk : k < w.heap.size) : w4.heap[k]? = w.heap[k]? :=
  (hg.block k (Nat.lt_trans hk (alloc_ltS w o)) (by simp [Value.ownBlock])).trans (Below.heap_alloc w _ _ hk)
theorem news3 (w : World) (vars R : Int) (xa : Option Addr) (n xc : Nat) : ∀ (j : Nat) (u : Value), [Value.int .i64 vars, .slice xa n xc, .int .i64 R][j]? = some u → (w.alloc (.cells #[.int .i64 vars, .slice xa n xc, .int .i64 R] 25)).cell? ((⟨w.heap.size, 0, none⟩ : Addr).add j) = some u :=
  World.news_of_block (MapKept.heap_alloc _ _).1
theorem ans_app {vars R : Int} {t : DT} {w w2 w3 w4 wd : World} {o : Obj} {g cap : Nat} {x : Value} {ms : List BN} (hk0 : w3.heap[w.heap.size]? = some (.cells #[.slice none 0 0] 83 (0, 0))) (hk1 : w3.heap[w.heap.size + 1]? = some (.cells #[.bool false] 4 (0, 0))) (hb : Below w.heap.size w w3) (hx : OwnN w3 (w.heap.size + 2) x ms) (hadd : Adds t [] ms R) (hms : ms.length ≤ 600)
    (hd : wd.heap = w3.heap) (hd1 : wd.os = w3.os) (hd2 : wd.tape = w3.tape) (hd3 : wd.output = w3.output) (hown : w4.ownsRow (w.heap.size + 2) 25 3 (.slice (some ⟨g, 0, none⟩) 1 cap) 1 [.int .i64 vars, x, .int .i64 R]) (hg : (wd.alloc o).grownBy w4 (Value.slice none 0 0).ownBlock) :
    LoopR vars t w w2 (.int .i64 1) (w4.setCell ⟨w.heap.size, 0, none⟩ (.slice (some ⟨g, 0, none⟩) 1 cap)) := by
  have hl1 : w.heap.size + 1 < w3.heap.size := (Array.getElem?_eq_some_iff.1 hk1).1
  have h2 : (wd.alloc o).heap.size = w3.heap.size + 1 := by show (wd.heap.push o).size = _; rw [hd]; simp
  have hk4 : ∀ k, k < w3.heap.size → w4.heap[k]? = w3.heap[k]? := fun k hk => (hg.block k (by show k < (wd.heap.push o).size; rw [hd]; simp; omega) (by simp [Value.ownBlock])).trans ((Below.heap_alloc wd o k (by rw [hd]; exact hk)).trans (by rw [hd]))
  have hset : ∀ k, k ≠ w.heap.size → (w4.setCell ⟨w.heap.size, 0, none⟩ (.slice (some ⟨g, 0, none⟩) 1 cap)).heap[k]? = w4.heap[k]? := fun k hk => heap_setCell_other _ _ _ _ hk
  have hgl := (hown.lt g rfl).1
  refine .inr ⟨rfl, g, cap, x, ms, R, heap_setCell_same _ _ 0 _ _ _ ((hk4 _ (by omega)).trans hk0), (hset _ (by omega)).trans ((hk4 _ hl1).trans hk1), ⟨by omega, ?_, ?_, ?_⟩, hx.block (fun y h1 h2 _ => (hset y (by omega)).trans (hk4 y h2)), hadd, hms, ?_⟩
  · exact (World.cell?_of_block (a := ⟨g, 0, none⟩) (hset g (by omega))).trans (hown.cellAt 0 (by decide))
  · exact (World.cell?_of_block (a := ⟨g, 1, none⟩) (hset g (by omega))).trans (hown.cellAt 1 (by decide))
  · exact (World.cell?_of_block (a := ⟨g, 2, none⟩) (hset g (by omega))).trans (hown.cellAt 2 (by decide))
  · refine Below.setCell (p := ⟨w.heap.size, 0, none⟩) ?_ (Nat.le_refl _) _
    exact ⟨hg.os.trans (hd1.trans hb.os), hg.tape.trans (hd2.trans hb.tape), hg.output.trans (hd3.trans hb.output), Nat.le_trans (Nat.le_trans hb.size (by rw [h2]; omega)) hg.size, fun k hk => (hk4 k (by have hk' : k < w.heap.size := hk; omega)).trans (hb.block k hk)⟩

set_option maxHeartbeats 8000000 in
theorem c_bddAnswers {vars : Int} {f : Int → Bool} {cb : Nat} (hv13 : vars ≤ 13) (hv0 : 0 ≤ vars) (w : World) (hg : ∃ u x, w.cell? ⟨0, 0, none⟩ = some (.iface u x)) (h0 : 0 < w.heap.size)
    (hroot : ∀ fb mb pb v w1, ForestAt vars fb mb pb v [] 0 w1 → (∀ g, FB fb mb pb v g → w.heap.size ≤ g) → Below w.heap.size w w1 → Calls Tryd.prog 79 #[.pointer (some ⟨fb, 0, none⟩), .pointer (some ⟨cb, 0, none⟩)] w1 (RootQ vars fb mb pb v f w1)) :
    Calls Tryd.prog 78 #[.int .i64 vars, .func (.func 79) #[] #[.pointer (some ⟨cb, 0, none⟩)]] w (AnsL vars f w) := by
  have HV13 := Go.Lib.hid hv13
  have HV0 := Go.Lib.hid hv0
  have HG := Go.Lib.hid hg
  have HRT := Go.Lib.hid hroot
  have HZ := Go.Lib.hid h0
  have hmf : ∀ (fn : Fn) (first cap : Array Value) (w : World), (Instr.makeFunc fn first cap).run Tryd.prog w = .ok (.func fn first cap) w := fun _ _ _ _ => rfl
  clear hg hroot
  go_enter_defers Tryd.func78, Tryd.ntmps78
  go_upto_region 1 with fail
  refine code_gen (R := fun wb => wb.heap[w.heap.size]? = some (.cells #[.slice none 0 0] 83 (0, 0)) ∧ wb.heap[w.heap.size + 1]? = some (.cells #[.bool false] 4 (0, 0)) ∧ Below w.heap.size w wb) ⟨(Below.heap_alloc _ _ _ (alloc_ltS _ _)).trans (MapKept.heap_alloc _ _).1, heap_snd _ _ _, by go_grown⟩ ?_
  rintro w0 ⟨k0, k1, hb0⟩
  have HK0 := Go.Lib.hid k0
  have HK1 := Go.Lib.hid k1
  have HB0 := Go.Lib.hid hb0
  clear k0 k1 hb0
  go_wp2_with fail
  refine (c_newForest vars w0).mono ?_
  rintro e w1 ⟨rfl, hf1, hb1⟩
  have hl1 : w.heap.size + 1 < w0.heap.size := (Array.getElem?_eq_some_iff.1 HK1.out).1
  have HL1 := Go.Lib.hid hl1
  have HFB := Go.Lib.hid (show ∀ g, FB (w0.heap.size + 2) w0.heap.size (w0.heap.size + 1) (.slice none 0 0) g → w0.heap.size ≤ g from fun g hg => by
    rcases hg with h | h | h | h
    · omega
    · omega
    · omega
    · simp [Value.ownBlock] at h)
  have HF1 := Go.Lib.hid hf1
  have HB1 := Go.Lib.hid (HB0.out.trans (hb1.mono (by omega)))
  have HK0b := Go.Lib.hid ((hb1.block _ (by omega)).trans HK0.out)
  have HK1b := Go.Lib.hid ((hb1.block _ hl1).trans HK1.out)
  clear hf1 hb1 HK0 HK1 hl1
  go_wp2_with fail
  refine (HRT.out _ _ _ _ w1 HF1.out (fun g hg => by have := HFB.out g hg; have := HL1.out; omega) HB1.out).mono ?_
  rintro e w2 ⟨p, v2, F2, np2, rb, rfl, hcell, hf2, hin2, hev2, hs2, hl2⟩
  have hlb : w.heap.size + 1 < w1.heap.size := (Array.getElem?_eq_some_iff.1 HK1b.out).1
  have HK0c := Go.Lib.hid ((hs2.block _ (by omega) (fun hg => by have := HFB.out _ hg; have := HL1.out; omega)).trans HK0b.out)
  have HK1c := Go.Lib.hid ((hs2.block _ hlb (fun hg => by have := HFB.out _ hg; have := HL1.out; omega)).trans HK1b.out)
  have HB2 := Go.Lib.hid (HB1.out.trans (hs2.below HB1.out.size (fun g hg => by have := HFB.out g hg; have := HL1.out; omega)))
  have HF2 := Go.Lib.hid hf2
  have HE2 := Go.Lib.hid hev2
  have HL2 := Go.Lib.hid hl2
  obtain ⟨t, ht, hr⟩ := InF.tree hf2.frs hin2
  have HT := Go.Lib.hid ht
  have HR := Go.Lib.hid (hr.mono (vAt_nonneg HV0.out hf2.frs hin2).1)
  have HEV := Go.Lib.hid (show ∀ c, 0 ≤ c → c < 2 ^ vars.toNat → t.ev c = f c from fun c h1 h2 => (evF_tree ht).symm.trans (hev2 c h1 h2))
  obtain ⟨u0, x0, hg0⟩ := HG.out
  have HG2 := Go.Lib.hid (show ∃ u x, w2.cell? ⟨0, 0, none⟩ = some (.iface u x) from ⟨u0, x0, keepc HB2.out HZ.out hg0⟩)
  clear hf2 hin2 hev2 hs2 hl2 ht hr hlb HF1 HB1 HK0b HK1b hg0 hmf HRT HFB HL1
  go_wp2_with fail
  go_loopw [15] (fun q wr => LoopR vars t w w2 q wr) (fun q _ => (1 - intOf q).toNat)
  case atStart => exact .inl ⟨rfl, rfl⟩
  case round =>
    rcases hrel with ⟨rfl, hwr⟩ | ⟨rfl, hq⟩
    · subst hwr
      go_upto_region 6 with fail
      have HDP := Go.Lib.hid (show ∀ (tmps : Array Value) (u : TypeId) (y : Value) (w' : World), tmps.getD 4 undef = .pointer (some ⟨w.heap.size, 0, none⟩) → tmps.getD 5 undef = .pointer (some ⟨w.heap.size + 1, 0, none⟩) → Below wr.heap.size wr w' → (∀ ms m, Adds t [] ms m → 600 < ms.length) →
        Leaves Tryd.prog Tryd.f78 tmps (AnsL vars f w) [{ target := Target.fn (Fn.func 93) #[.pointer (some ⟨w.heap.size, 0, none⟩), .pointer (some ⟨w.heap.size + 1, 0, none⟩)], args := #[] }] (.panicking [{ v := .iface u y, recovered := false }]) w' from fun tmps u y w' h4 h5 hb hno => by
          have hl1 : w.heap.size + 1 < wr.heap.size := (Array.getElem?_eq_some_iff.1 HK1c.out).1
          have hbw : Below w.heap.size w w' := HB2.out.trans (hb.mono HB2.out.size)
          refine door_panic h4 h5 ((hb.block _ (by omega)).trans HK0c.out) ((hb.block _ hl1).trans HK1c.out) (by omega) ⟨t, HR.out, HEV.out, (hbw.setCell (p := ⟨w.heap.size, 0, none⟩) (Nat.le_refl _) _).setCell (p := ⟨w.heap.size + 1, 0, none⟩) (Nat.le_succ _) _, .inr ⟨rfl, hno⟩⟩)
      have c0 := cell_of_block (i := 0) HK0c.out (v := .slice none 0 0) rfl
      have r0 := free_of_block (i := 0) HK0c.out
      have HL0 := Go.Lib.hid (Array.getElem?_eq_some_iff.1 HK0c.out).1
      have HFL := Go.Lib.hid (show F2.length ≤ 1000000 by have := HL2.out; omega)
      obtain ⟨i1, hi1, hz01, hz11, hz21⟩ := info_parts bddInfo
      have HI1 := Go.Lib.hid hi1
      have HZ01 := Go.Lib.hid hz01
      have HZ11 := Go.Lib.hid hz11
      have HZ21 := Go.Lib.hid hz21
      clear hi1 hz01 hz11 hz21
      refine wp_region_any (by kernel_rfl) ?_
      refine wpAny_take (i := 1) (v := ?_) rfl (by kernel_rfl) (by kernel_rfl) (by kernel_rfl) (fun c a w h => door_put 20 (by decide) (by decide) _ c a w h) (Or.inl ⟨by rfl, ?_⟩) ?_
      rotate_left
      · (intro w; go_simp <;> (with_reducible rfl))
      (try simp only [Act.put, List.setIfInBounds_toArray])
      refine wpAny_take (i := 2) (v := ?_) rfl (by kernel_rfl) (by kernel_rfl) (by kernel_rfl) (fun c a w h => door_put 21 (by decide) (by decide) _ c a w h) (Or.inl ⟨by rfl, ?_⟩) ?_
      rotate_left
      · (intro w; go_simp <;> (with_reducible rfl))
      (try simp only [Act.put])
      refine wpAny_take (i := 3) (v := ?_) rfl (by kernel_rfl) (by kernel_rfl) (by kernel_rfl) (fun c a w h => door_put 22 (by decide) (by decide) _ c a w h) (Or.inl ⟨by rfl, ?_⟩) ?_
      rotate_left
      · (intro w; go_simp <;> (with_reducible rfl))
      (try simp only [Act.put])
      refine wpAny_ready (rs := [0, 4]) (by kernel_rfl) (by simp) ?_
      refine AllReady.cons (o := _) rfl (fun K hK => ?_) ?_
      · go_simp
        (refine hK _ _ ?_)
        clear hK K
        (try simp only [Act.put, List.setIfInBounds_toArray, List.set_cons_succ])
        refine wpAny_ready (rs := [4]) (by kernel_rfl) (by simp) ?_
        refine AllReady.cons (o := _) rfl (fun K hK => ?_) AllReady.nil
        go_simp
        have HKK := Go.Lib.hid hK
        clear hK
        refine Calls.mono (c_diagram (mb := w0.heap.size) (pb := w0.heap.size + 1) (v := v2) (np := np2) HV13.out HFL.out _ ?_ HT.out (Int.le_refl 0) HR.out ?_) ?_
        · exact HF2.out.keep (fun _ _ => rfl)
        · exact HG2.out
        rintro e w3 (⟨x, ms, R, rfl, hown, hadd, hms, hb3⟩ | ⟨u, y, rfl, hb3, hno3⟩)
        rotate_left
        · exact HDP.out _ u y w3 rfl rfl ⟨hb3.os, hb3.tape, hb3.output, hb3.size, hb3.block⟩ hno3
        obtain ⟨xa, xc, rfl, -⟩ := OwnN.form hown
        have hb3' : Below wr.heap.size wr w3 := ⟨hb3.os, hb3.tape, hb3.output, hb3.size, hb3.block⟩
        have hl1 : w.heap.size + 1 < wr.heap.size := (Array.getElem?_eq_some_iff.1 HK1c.out).1
        have HK03 := Go.Lib.hid ((hb3'.block _ (by omega)).trans HK0c.out)
        have HK13 := Go.Lib.hid ((hb3'.block _ hl1).trans HK1c.out)
        have HB3 := Go.Lib.hid (HB2.out.trans (hb3'.mono HB2.out.size))
        have HOW := Go.Lib.hid (show OwnN w3 (w.heap.size + 2) (.slice xa ms.length xc) ms from OwnN.mono hown hl1)
        have HADD := Go.Lib.hid hadd
        have HMS := Go.Lib.hid hms
        have c3 := cell_of_block (i := 0) HK03.out (v := .slice none 0 0) rfl
        have r3 := free_of_block (i := 0) HK03.out
        have HL3 := Go.Lib.hid (Array.getElem?_eq_some_iff.1 HK03.out).1
        have c3a : ∀ o, (w3.alloc o).cell? ⟨w.heap.size, 0, none⟩ = some (.slice none 0 0) := fun o => keepc (show Below w3.heap.size w3 (w3.alloc o) by go_grown) HL3.out c3
        clear hown hadd hms hb3 hb3' hl1
        (try go_wp2_with fail)
        (refine HKK.out _ _ ?_)
        clear HKK K
        (try simp only [Act.put, List.setIfInBounds_toArray, List.set_cons_succ])
        refine wpAny_ready (rs := [5]) (by kernel_rfl) (by simp) ?_
        refine AllReady.cons (o := _) rfl (fun K hK => ?_) AllReady.nil
        go_simp
        (refine hK _ _ ?_)
        clear hK K
        (try simp only [Act.put, List.setIfInBounds_toArray, List.set_cons_succ])
        refine wpAny_ready (rs := [6]) (by kernel_rfl) (by simp) ?_
        refine AllReady.cons (o := _) rfl (fun K hK => ?_) AllReady.nil
        refine step_append_lies _ rfl (.tmp 19) (.tmp 24) 83 rfl (w.heap.size + 2) 25 i1 (.agg #[.int .i64 0, .slice none 0 0, .int .i64 0]) 3 40 Tryd.underlying83 HI1.out HZ01.out HZ11.out HZ21.out rfl (by decide) (.slice none 0 0) 0 [] (by simp [Act.eval]) (World.ownsRow_nil _ _ _ _) ⟨w3.heap.size, 0, none⟩ 1 1 [.int .i64 vars, .slice xa ms.length xc, .int .i64 R] (by simp [Act.eval]) rfl (news3 w3 vars R xa ms.length xc) (by intro u hu; simp at hu; rcases hu with rfl | rfl | rfl <;> rfl) (by decide) (by unfold maxLen; decide) (by decide) (by have := HK13.out; have h2 := (Array.getElem?_eq_some_iff.1 this).1; simp; omega) _ rfl ?_
        intro g cap w4 hown' hgrow' hat hlt4
        have v4 := (World.cell?_of_block (w := w3) (w' := w4) (a := ⟨w.heap.size, 0, none⟩) (far0 hgrow' HL3.out)).trans c3
        have r4 := (World.frozen?_of_block (w := w3) (w' := w4) (a := ⟨w.heap.size, 0, none⟩) (far0 hgrow' HL3.out)).trans r3
        (try go_simp)
        (refine hK _ _ ?_)
        clear hK K
        (try simp only [Act.put, List.setIfInBounds_toArray, List.set_cons_succ])
        refine wpAny_ready (rs := [7]) (by kernel_rfl) (by simp) ?_
        refine AllReady.cons (o := _) rfl (fun K hK => ?_) AllReady.nil
        go_simp
        (refine hK _ _ ?_)
        clear hK K
        (try simp only [Act.put, List.setIfInBounds_toArray, List.set_cons_succ])
        refine wpAny_done (by kernel_rfl) ?_ _
        have HQ := Go.Lib.hid (ans_app (w2 := wr) (wd := w3) (o := .cells #[.int .i64 vars, .slice xa ms.length xc, .int .i64 R] 25) HK03.out HK13.out HB3.out HOW.out HADD.out HMS.out rfl rfl rfl rfl hown' hgrow')
        clear hown' hgrow' hat hlt4 v4 r4 c3 r3 c3a c0 r0 hcell
        go_wp2_with fail
        go_roundw
        case rel => exact HQ.out
        case measure => simp [intOf]
      refine AllReady.cons (o := _) rfl (fun K hK => ?_) AllReady.nil
      go_simp
      have HKK := Go.Lib.hid hK
      clear hK
      refine Calls.mono (c_diagram (mb := w0.heap.size) (pb := w0.heap.size + 1) (v := v2) (np := np2) HV13.out HFL.out _ ?_ HT.out (Int.le_refl 0) HR.out ?_) ?_
      · exact HF2.out.keep (fun _ _ => rfl)
      · exact HG2.out
      rintro e w3 (⟨x, ms, R, rfl, hown, hadd, hms, hb3⟩ | ⟨u, y, rfl, hb3, hno3⟩)
      rotate_left
      · exact HDP.out _ u y w3 rfl rfl ⟨hb3.os, hb3.tape, hb3.output, hb3.size, hb3.block⟩ hno3
      obtain ⟨xa, xc, rfl, -⟩ := OwnN.form hown
      have hb3' : Below wr.heap.size wr w3 := ⟨hb3.os, hb3.tape, hb3.output, hb3.size, hb3.block⟩
      have hl1 : w.heap.size + 1 < wr.heap.size := (Array.getElem?_eq_some_iff.1 HK1c.out).1
      have HK03 := Go.Lib.hid ((hb3'.block _ (by omega)).trans HK0c.out)
      have HK13 := Go.Lib.hid ((hb3'.block _ hl1).trans HK1c.out)
      have HB3 := Go.Lib.hid (HB2.out.trans (hb3'.mono HB2.out.size))
      have HOW := Go.Lib.hid (show OwnN w3 (w.heap.size + 2) (.slice xa ms.length xc) ms from OwnN.mono hown hl1)
      have HADD := Go.Lib.hid hadd
      have HMS := Go.Lib.hid hms
      have c3 := cell_of_block (i := 0) HK03.out (v := .slice none 0 0) rfl
      have r3 := free_of_block (i := 0) HK03.out
      have HL3 := Go.Lib.hid (Array.getElem?_eq_some_iff.1 HK03.out).1
      have c3a : ∀ o, (w3.alloc o).cell? ⟨w.heap.size, 0, none⟩ = some (.slice none 0 0) := fun o => keepc (show Below w3.heap.size w3 (w3.alloc o) by go_grown) HL3.out c3
      clear hown hadd hms hb3 hb3' hl1
      (try go_wp2_with fail)
      (refine HKK.out _ _ ?_)
      clear HKK K
      (try simp only [Act.put, List.setIfInBounds_toArray, List.set_cons_succ])
      refine wpAny_ready (rs := [0, 5]) (by kernel_rfl) (by simp) ?_
      refine AllReady.cons (o := _) rfl (fun K hK => ?_) ?_
      · go_simp
        (refine hK _ _ ?_)
        clear hK K
        (try simp only [Act.put, List.setIfInBounds_toArray, List.set_cons_succ])
        refine wpAny_ready (rs := [5]) (by kernel_rfl) (by simp) ?_
        refine AllReady.cons (o := _) rfl (fun K hK => ?_) AllReady.nil
        go_simp
        (refine hK _ _ ?_)
        clear hK K
        (try simp only [Act.put, List.setIfInBounds_toArray, List.set_cons_succ])
        refine wpAny_ready (rs := [6]) (by kernel_rfl) (by simp) ?_
        refine AllReady.cons (o := _) rfl (fun K hK => ?_) AllReady.nil
        refine step_append_lies _ rfl (.tmp 19) (.tmp 24) 83 rfl (w.heap.size + 2) 25 i1 (.agg #[.int .i64 0, .slice none 0 0, .int .i64 0]) 3 40 Tryd.underlying83 HI1.out HZ01.out HZ11.out HZ21.out rfl (by decide) (.slice none 0 0) 0 [] (by simp [Act.eval]) (World.ownsRow_nil _ _ _ _) ⟨w3.heap.size, 0, none⟩ 1 1 [.int .i64 vars, .slice xa ms.length xc, .int .i64 R] (by simp [Act.eval]) rfl (news3 w3 vars R xa ms.length xc) (by intro u hu; simp at hu; rcases hu with rfl | rfl | rfl <;> rfl) (by decide) (by unfold maxLen; decide) (by decide) (by have := HK13.out; have h2 := (Array.getElem?_eq_some_iff.1 this).1; simp; omega) _ rfl ?_
        intro g cap w4 hown' hgrow' hat hlt4
        have v4 := (World.cell?_of_block (w := w3) (w' := w4) (a := ⟨w.heap.size, 0, none⟩) (far0 hgrow' HL3.out)).trans c3
        have r4 := (World.frozen?_of_block (w := w3) (w' := w4) (a := ⟨w.heap.size, 0, none⟩) (far0 hgrow' HL3.out)).trans r3
        (try go_simp)
        (refine hK _ _ ?_)
        clear hK K
        (try simp only [Act.put, List.setIfInBounds_toArray, List.set_cons_succ])
        refine wpAny_ready (rs := [7]) (by kernel_rfl) (by simp) ?_
        refine AllReady.cons (o := _) rfl (fun K hK => ?_) AllReady.nil
        go_simp
        (refine hK _ _ ?_)
        clear hK K
        (try simp only [Act.put, List.setIfInBounds_toArray, List.set_cons_succ])
        refine wpAny_done (by kernel_rfl) ?_ _
        have HQ := Go.Lib.hid (ans_app (w2 := wr) (wd := w3) (o := .cells #[.int .i64 vars, .slice xa ms.length xc, .int .i64 R] 25) HK03.out HK13.out HB3.out HOW.out HADD.out HMS.out rfl rfl rfl rfl hown' hgrow')
        clear hown' hgrow' hat hlt4 v4 r4 c3 r3 c3a c0 r0 hcell
        go_wp2_with fail
        go_roundw
        case rel => exact HQ.out
        case measure => simp [intOf]
      refine AllReady.cons (o := _) rfl (fun K hK => ?_) AllReady.nil
      go_simp
      (refine hK _ _ ?_)
      clear hK K
      (try simp only [Act.put, List.setIfInBounds_toArray, List.set_cons_succ])
      refine wpAny_ready (rs := [0]) (by kernel_rfl) (by simp) ?_
      refine AllReady.cons (o := _) rfl (fun K hK => ?_) AllReady.nil
      go_simp
      (refine hK _ _ ?_)
      clear hK K
      (try simp only [Act.put, List.setIfInBounds_toArray, List.set_cons_succ])
      refine wpAny_ready (rs := [6]) (by kernel_rfl) (by simp) ?_
      refine AllReady.cons (o := _) rfl (fun K hK => ?_) AllReady.nil
      refine step_append_lies _ rfl (.tmp 19) (.tmp 24) 83 rfl (w.heap.size + 2) 25 i1 (.agg #[.int .i64 0, .slice none 0 0, .int .i64 0]) 3 40 Tryd.underlying83 HI1.out HZ01.out HZ11.out HZ21.out rfl (by decide) (.slice none 0 0) 0 [] (by simp [Act.eval]) (World.ownsRow_nil _ _ _ _) ⟨w3.heap.size, 0, none⟩ 1 1 [.int .i64 vars, .slice xa ms.length xc, .int .i64 R] (by simp [Act.eval]) rfl (news3 w3 vars R xa ms.length xc) (by intro u hu; simp at hu; rcases hu with rfl | rfl | rfl <;> rfl) (by decide) (by unfold maxLen; decide) (by decide) (by have := HK13.out; have h2 := (Array.getElem?_eq_some_iff.1 this).1; simp; omega) _ rfl ?_
      intro g cap w4 hown' hgrow' hat hlt4
      have v4 := (World.cell?_of_block (w := w3) (w' := w4) (a := ⟨w.heap.size, 0, none⟩) (far0 hgrow' HL3.out)).trans c3
      have r4 := (World.frozen?_of_block (w := w3) (w' := w4) (a := ⟨w.heap.size, 0, none⟩) (far0 hgrow' HL3.out)).trans r3
      (try go_simp)
      (refine hK _ _ ?_)
      clear hK K
      (try simp only [Act.put, List.setIfInBounds_toArray, List.set_cons_succ])
      refine wpAny_ready (rs := [7]) (by kernel_rfl) (by simp) ?_
      refine AllReady.cons (o := _) rfl (fun K hK => ?_) AllReady.nil
      go_simp
      (refine hK _ _ ?_)
      clear hK K
      (try simp only [Act.put, List.setIfInBounds_toArray, List.set_cons_succ])
      refine wpAny_done (by kernel_rfl) ?_ _
      have HQ := Go.Lib.hid (ans_app (w2 := wr) (wd := w3) (o := .cells #[.int .i64 vars, .slice xa ms.length xc, .int .i64 R] 25) HK03.out HK13.out HB3.out HOW.out HADD.out HMS.out rfl rfl rfl rfl hown' hgrow')
      clear hown' hgrow' hat hlt4 v4 r4 c3 r3 c3a c0 r0 hcell
      go_wp2_with fail
      go_roundw
      case rel => exact HQ.out
      case measure => simp [intOf]
    · obtain ⟨g, cap, x, ms, R, h1, h2, h3, h4, h5, h6, h7⟩ := hq
      have H1 := Go.Lib.hid h1
      have H2 := Go.Lib.hid h2
      have HQ := Go.Lib.hid (And.intro h3 (And.intro h4 (And.intro h5 (And.intro h6 h7))))
      have c0 := cell_of_block (i := 0) h1 (v := .slice (some ⟨g, 0, none⟩) 1 cap) rfl
      have r0 := free_of_block (i := 0) h1
      have c1 := cell_of_block (i := 0) h2 (v := .bool false) rfl
      have r1 := free_of_block (i := 0) h2
      clear h1 h2 h3 h4 h5 h6 h7 hcell
      go_wp2_with fail
      obtain ⟨⟨hg1, hg2, hg3, hg4⟩, hown, hadd, hms, hbw⟩ := HQ.out
      have e1 : ((wr.setCell ⟨w.heap.size, 0, none⟩ (.slice (some ⟨g, 0, none⟩) 1 cap)).setCell ⟨w.heap.size + 1, 0, none⟩ (.bool true)).heap[w.heap.size]? = some (.cells #[.slice (some ⟨g, 0, none⟩) 1 cap] 83 (0, 0)) := (heap_setCell_other _ _ _ _ (by show w.heap.size ≠ w.heap.size + 1; omega)).trans (heap_setCell_same _ _ 0 _ _ _ H1.out)
      have e2 : ((wr.setCell ⟨w.heap.size, 0, none⟩ (.slice (some ⟨g, 0, none⟩) 1 cap)).setCell ⟨w.heap.size + 1, 0, none⟩ (.bool true)).heap[w.heap.size + 1]? = some (.cells #[.bool true] 4 (0, 0)) := heap_setCell_same _ _ 0 _ _ _ ((heap_setCell_other _ _ _ _ (by show w.heap.size + 1 ≠ w.heap.size; omega)).trans H2.out)
      have e3 : ∀ k, w.heap.size + 1 < k → ((wr.setCell ⟨w.heap.size, 0, none⟩ (.slice (some ⟨g, 0, none⟩) 1 cap)).setCell ⟨w.heap.size + 1, 0, none⟩ (.bool true)).heap[k]? = wr.heap[k]? := fun k hk => (heap_setCell_other _ _ _ _ (by show k ≠ w.heap.size + 1; omega)).trans (heap_setCell_other _ _ _ _ (by show k ≠ w.heap.size; omega))
      exact door_idle rfl rfl (cell_of_block (i := 0) e1 rfl) (cell_of_block (i := 0) e2 rfl) ⟨t, HR.out, HEV.out, (hbw.setCell (p := ⟨w.heap.size, 0, none⟩) (Nat.le_refl _) _).setCell (p := ⟨w.heap.size + 1, 0, none⟩) (Nat.le_succ _) _, .inl ⟨g, cap, x, ms, R, rfl, (World.cell?_of_block (a := ⟨g, 0, none⟩) (e3 g hg1)).trans hg2, (World.cell?_of_block (a := ⟨g, 1, none⟩) (e3 g hg1)).trans hg3, (World.cell?_of_block (a := ⟨g, 2, none⟩) (e3 g hg1)).trans hg4, (hown.block (fun y h1 _ _ => e3 y (by omega))).mono (by omega), hadd, hms⟩⟩
end Go.Proofs.YthdofdglbdfkkaaDoor
