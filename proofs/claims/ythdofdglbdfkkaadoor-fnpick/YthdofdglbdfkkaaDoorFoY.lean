/-
  One diagram through the door.
-/
import Derived.Test.YthdofdglbdfkkaaDoorRows
import Derived.Test.YthdofdglbdfkkaaDoorFoX
import Derived.Test.YthdofdglbdfkkaaDoorBdY
import Derived.Test.YthdofdglbdfkkaaDoorBdN
import Derived.WalkKit
import Derived.ProofKit
import Derived.OpenShut
import Derived.WalkSpells
import Derived.WalkLawsBesides
import Derived.Outline
import Derived.BigQuiet
import Derived.Handy
import Derived.LoopTactic
import Derived.Deep.Light
import Derived.Deep.RegionWith
import Derived.Deep.RegionHeld3
import Derived.Deep.DeepCutAuto
import Derived.Lib.Hide
import Derived.Maps.OwnRows
import Derived.Deep.Onto
import Derived.OneCell
import Derived.StillTailTactics
import Derived.Deep.AppendLies
import Derived.Deep.RegionLaw
import Derived.Defers
import Derived.Recover
namespace Go.Proofs.YthdofdglbdfkkaaDoor
open Go.ChangeShapes Go.WideShapes Go.ChangeAt Go.RowKit Go.Maps Go.ChangeMaps
set_option linter.unusedVariables false
set_option maxRecDepth 100000

/-- The diagram of a set, or nothing if it is too large. -/
def AnsR (vars : Int) (f : Int → Bool) (V : Int) (ms : List BN) (R : Int) (b : Bool) : Prop :=
  ∃ t : DT, t.Red vars 0 ∧ (∀ c, 0 ≤ c → c < 2 ^ vars.toNat → t.ev c = f c) ∧ ∃ ns p, Adds t [] ns p ∧ ((ns.length ≤ 600 ∧ V = vars ∧ ms = ns ∧ R = p ∧ b = true) ∨ (600 < ns.length ∧ V = 0 ∧ ms = [] ∧ R = 0 ∧ b = false))
theorem red_same {vars : Int} {t s : DT} {f : Int → Bool} (hv : 0 ≤ vars) (ht : t.Red vars 0) (hs : s.Red vars 0) (h1 : ∀ c, 0 ≤ c → c < 2 ^ vars.toNat → t.ev c = f c) (h2 : ∀ c, 0 ≤ c → c < 2 ^ vars.toNat → s.ev c = f c) : t = s := by
  have e1 := canon_uniq (vars := vars) (T := f) vars.toNat 0 0 t (by omega) (by omega) ht (by omega) (by decide) (fun c a b _ => h1 c a b)
  have e2 := canon_uniq (vars := vars) (T := f) vars.toNat 0 0 s (by omega) (by omega) hs (by omega) (by decide) (fun c a b _ => h2 c a b)
  rw [← e1, ← e2]
theorem AnsR.inj {vars : Int} {f : Int → Bool} (hv : 0 ≤ vars) {V V' : Int} {ms ms' : List BN} {R R' : Int} {b b' : Bool} (h : AnsR vars f V ms R b) (k : AnsR vars f V' ms' R' b') : V = V' ∧ ms = ms' ∧ R = R' ∧ b = b' := by
  obtain ⟨t, h1, h2, ns, p, h3, h4⟩ := h
  obtain ⟨s, k1, k2, ns', p', k3, k4⟩ := k
  obtain rfl := red_same hv h1 k1 h2 k2
  obtain ⟨rfl, rfl⟩ := h3.inj (Int.le_refl 0) h1 (Frs.nil vars) k3
  rcases h4 with ⟨a1, rfl, rfl, rfl, rfl⟩ | ⟨a1, rfl, rfl, rfl, rfl⟩ <;> rcases k4 with ⟨b1, rfl, rfl, rfl, rfl⟩ | ⟨b1, rfl, rfl, rfl, rfl⟩
  · exact ⟨rfl, rfl, rfl, rfl⟩
  · omega
  · omega
  · exact ⟨rfl, rfl, rfl, rfl⟩
theorem AnsR.len {vars : Int} {f : Int → Bool} {V : Int} {ms : List BN} {R : Int} {b : Bool} (h : AnsR vars f V ms R b) : ms.length ≤ 600 := by
  obtain ⟨t, h1, h2, ns, p, h3, h4⟩ := h
  rcases h4 with ⟨a1, -, rfl, -, -⟩ | ⟨-, -, rfl, -, -⟩
  · exact a1
  · decide
theorem AnsR.congr {vars : Int} {f g : Int → Bool} (hfg : ∀ c, 0 ≤ c → c < 2 ^ vars.toNat → f c = g c) {V : Int} {ms : List BN} {R : Int} {b : Bool} (h : AnsR vars f V ms R b) : AnsR vars g V ms R b := by
  obtain ⟨t, h1, h2, h3⟩ := h
  exact ⟨t, h1, fun c a b => (h2 c a b).trans (hfg c a b), h3⟩

set_option maxHeartbeats 4000000 in
theorem c_root1 {vars : Int} {fb mb pb : Nat} {v : Value} {f : Int → Bool} {K cb G : Nat} {caps : Array Value} (w : World) (hcell : w.cell? ⟨cb, 0, none⟩ = some (.func (.func K) #[] caps)) (hG : G ≤ 900000) (hK : ∀ args u, (callFunc K args).run Tryd.prog u = .ok (.enter K args) u)
    (hroot : Calls Tryd.prog K (#[.pointer (some ⟨fb, 0, none⟩)] ++ caps) w (SetQ vars fb mb pb v [] 0 G f w)) :
    Calls Tryd.prog 79 #[.pointer (some ⟨fb, 0, none⟩), .pointer (some ⟨cb, 0, none⟩)] w (RootQ vars fb mb pb v f w) := by
  have HR := Go.Lib.hid hroot
  clear hroot
  go_enter Tryd.func79, Tryd.ntmps79
  go_wp2_with fail
  refine HR.out.mono ?_
  rintro e w1 ⟨p, v1, F1, np1, rfl, hf, -, hp, hev, hs, hl, -⟩
  have HQ := Go.Lib.hid (And.intro hf (And.intro hp (And.intro hev (And.intro hs hl))))
  clear hf hp hev hs hl hK
  go_wp2_with fail
  go_ret
  obtain ⟨hf, hp, hev, hs, hl⟩ := HQ.out
  exact ⟨p, v1, F1, np1, w1.heap.size, rfl, cell_of_block (i := 0) (MapKept.heap_alloc _ _).1 rfl, hf.below (by go_grown), hp, fun c _ _ => hev c, hs.then (by go_grown), by simp at hl; omega⟩

set_option maxHeartbeats 8000000 in
theorem c_bddAnswer {vars : Int} {f : Int → Bool} {K G : Nat} {caps : Array Value} (hv0 : 0 ≤ vars) (hv13 : vars ≤ 13) (w : World) (hg : ∃ u x, w.cell? ⟨0, 0, none⟩ = some (.iface u x)) (h0 : 0 < w.heap.size) (hG : G ≤ 900000) (hK : ∀ args u, (callFunc K args).run Tryd.prog u = .ok (.enter K args) u)
    (hroot : ∀ fb mb pb v w1, ForestAt vars fb mb pb v [] 0 w1 → (∀ g, FB fb mb pb v g → w.heap.size ≤ g) → Below w.heap.size w w1 → Calls Tryd.prog K (#[.pointer (some ⟨fb, 0, none⟩)] ++ caps) w1 (SetQ vars fb mb pb v [] 0 G f w1)) :
    Calls Tryd.prog 38 #[.int .i64 vars, .func (.func K) #[] caps] w (BddQ (AnsR vars f) w) := by
  have HR := Go.Lib.hid hroot
  have HG := Go.Lib.hid hg
  have HK := Go.Lib.hid hK
  have HV0 := Go.Lib.hid hv0
  have HV13 := Go.Lib.hid hv13
  have H0 := Go.Lib.hid h0
  have hmf : ∀ (fn : Fn) (first cap : Array Value) (w : World), (Instr.makeFunc fn first cap).run Tryd.prog w = .ok (.func fn first cap) w := fun _ _ _ _ => rfl
  clear hroot hg hK hv0 hv13
  go_enter Tryd.func38, Tryd.ntmps38
  go_upto_region 1 with fail
  refine code_gen (R := fun wb => wb.heap[w.heap.size]? = some (.cells #[.func (.func K) #[] caps] 63 (0, 0)) ∧ wb.heap[w.heap.size + 1]? = some (.cells #[.int .i64 0, .slice none 0 0, .int .i64 0] 25 (0, 0)) ∧ Below w.heap.size w wb) ⟨(Below.heap_alloc _ _ _ (alloc_ltS _ _)).trans (MapKept.heap_alloc _ _).1, heap_snd _ _ _, by go_grown⟩ ?_
  rintro w0 ⟨k0, k1, hb0⟩
  have HK0 := Go.Lib.hid k0
  have HK1 := Go.Lib.hid k1
  have HB0 := Go.Lib.hid hb0
  have hl0 : w.heap.size + 1 < w0.heap.size := (Array.getElem?_eq_some_iff.1 k1).1
  have HL0 := Go.Lib.hid hl0
  clear k0 k1 hb0
  go_wp2_with fail
  refine (c_bddAnswers (f := f) (cb := w.heap.size) HV13.out HV0.out w0 (by obtain ⟨u, x, h⟩ := HG.out; exact ⟨u, x, keepc HB0.out H0.out h⟩) (by omega) (fun fb mb pb v w1 hf hfb hb => c_root1 w1 (keepc hb (by omega) (cell_of_block (i := 0) HK0.out rfl)) hG HK.out (HR.out fb mb pb v w1 hf (fun g hgg => by have := hfb g hgg; omega) (HB0.out.trans (hb.mono HB0.out.size))))).mono ?_
  rintro e w2 ⟨t, ht, hev, hb2, (⟨g, cap, x, ms, R, rfl, c0, c1, c2, hown, hadd, hms⟩ | ⟨rfl, hno⟩)⟩
  · have HT := Go.Lib.hid (show AnsR vars f vars ms R true from ⟨t, ht, hev, ms, R, hadd, .inl ⟨hms, rfl, rfl, rfl, rfl⟩⟩)
    have HB2 := Go.Lib.hid (HB0.out.trans (hb2.mono HB0.out.size))
    have HOW := Go.Lib.hid hown
    have HK2 := Go.Lib.hid ((hb2.block _ hl0).trans HK1.out)
    have z0 := cell_of_block (i := 0) HK2.out (v := .int .i64 0) rfl
    have z1 := cell_of_block (i := 1) HK2.out (v := .slice none 0 0) rfl
    have z2 := cell_of_block (i := 2) HK2.out (v := .int .i64 0) rfl
    have f0 := free_of_block (i := 0) HK2.out
    have f1 := free_of_block (i := 1) HK2.out
    have f2 := free_of_block (i := 2) HK2.out
    obtain ⟨xa, xc, rfl, -⟩ := OwnN.form hown
    clear ht hev hb2 hown hadd hms hmf
    go_wp2_with fail
    refine bodyPost_ret (v := .tuple #[.agg #[.int .i64 vars, .slice xa ms.length xc, .int .i64 R], .bool true]) (results_cell_q (p := 4) (q := 5) rfl _ _ (w.heap.size + 1) 25 _ (0, 0) _ rfl rfl (heap_setCell_same _ _ 2 _ _ _ (heap_setCell_same _ _ 1 _ _ _ (heap_setCell_same _ _ 0 _ _ _ HK2.out))) Tryd.underlying25 rfl (by kernel_rfl)) rfl ⟨_, _, _, _, ms, rfl, ?_, HT.out, ?_⟩
    · exact OwnN.mono (OwnN.block HOW.out (fun y h1 _ _ => by have h2 := HL0.out; rw [heap_setCell_other _ _ _ _ (by show y ≠ w.heap.size + 1; omega), heap_setCell_other _ _ _ _ (by show y ≠ w.heap.size + 1; omega), heap_setCell_other _ _ _ _ (by show y ≠ w.heap.size + 1; omega)])) HB0.out.size
    · exact ((HB2.out.setCell (p := ⟨w.heap.size + 1, 0, none⟩) (Nat.le_succ _) _).setCell (p := ⟨w.heap.size + 1, 1, none⟩) (Nat.le_succ _) _).setCell (p := ⟨w.heap.size + 1, 2, none⟩) (Nat.le_succ _) _
  · have HT := Go.Lib.hid (show AnsR vars f 0 [] 0 false from ⟨t, ht, hev, by obtain ⟨n', p, ha⟩ := Adds.total t []; exact ⟨n', p, ha, .inr ⟨hno _ _ ha, rfl, rfl, rfl, rfl⟩⟩⟩)
    have HB2 := Go.Lib.hid (HB0.out.trans (hb2.mono HB0.out.size))
    have HK2 := Go.Lib.hid ((hb2.block _ hl0).trans HK1.out)
    have z0 := cell_of_block (i := 0) HK2.out (v := .int .i64 0) rfl
    have z1 := cell_of_block (i := 1) HK2.out (v := .slice none 0 0) rfl
    have z2 := cell_of_block (i := 2) HK2.out (v := .int .i64 0) rfl
    have f0 := free_of_block (i := 0) HK2.out
    have f1 := free_of_block (i := 1) HK2.out
    have f2 := free_of_block (i := 2) HK2.out
    clear ht hev hb2 hno hmf
    go_wp2_with fail
    refine bodyPost_ret (v := .tuple #[.agg #[.int .i64 0, .slice none 0 0, .int .i64 0], .bool false]) (results_cell_q (p := 4) (q := 5) rfl _ _ (w.heap.size + 1) 25 _ (0, 0) _ rfl rfl (heap_setCell_same _ _ 2 _ _ _ (heap_setCell_same _ _ 1 _ _ _ (heap_setCell_same _ _ 0 _ _ _ HK2.out))) Tryd.underlying25 rfl (by kernel_rfl)) rfl ⟨_, _, _, _, [], rfl, OwnN.nil _ _, HT.out, ?_⟩
    exact ((HB2.out.setCell (p := ⟨w.heap.size + 1, 0, none⟩) (Nat.le_succ _) _).setCell (p := ⟨w.heap.size + 1, 1, none⟩) (Nat.le_succ _) _).setCell (p := ⟨w.heap.size + 1, 2, none⟩) (Nat.le_succ _) _
end Go.Proofs.YthdofdglbdfkkaaDoor
