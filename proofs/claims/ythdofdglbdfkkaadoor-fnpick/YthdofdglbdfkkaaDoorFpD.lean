/-
  What is drawn for sets: whatever the code, a diagram of so many bits that is one.
-/
import Derived.Test.YthdofdglbdfkkaaDoorRows
import Derived.Test.YthdofdglbdfkkaaDoorPaA
import Derived.Test.YthdofdglbdfkkaaDoorG0
import Derived.Test.YthdofdglbdfkkaaDoorRd
import Derived.Test.YthdofdglbdfkkaaDoorBdT
import Derived.Test.YthdofdglbdfkkaaDoorBdN
import Derived.Test.YthdofdglbdfkkaaDoorBdY
import Derived.Test.YthdofdglbdfkkaaDoorFpB
import Derived.Test.YthdofdglbdfkkaaDoorFoK
import Derived.Test.YthdofdglbdfkkaaDoorFoN
import Derived.Test.YthdofdglbdfkkaaDoorFoO
import Derived.Test.YthdofdglbdfkkaaDoorFpT
import Derived.WalkKit
import Derived.ProofKit
import Derived.OpenShut
import Derived.WalkSpells
import Derived.WalkLawsBesides
import Derived.Outline
import Derived.BigQuiet
import Derived.Handy
import Derived.LoopTactic
import Derived.Deep.Light
import Derived.Deep.RegionWith
import Derived.Deep.RegionHeld3
import Derived.Deep.DeepCutAuto
import Derived.Lib.Hide
import Derived.Maps.OwnRows
import Derived.Deep.Onto
import Derived.OneCell
import Derived.StillTailTactics
import Derived.Deep.AppendLies
import Derived.Deep.RegionLaw
namespace Go.Proofs.YthdofdglbdfkkaaDoor
open Go.ChangeShapes Go.WideShapes Go.ChangeAt Go.RowKit Go.Maps Go.ChangeMaps
set_option linter.unusedVariables false
set_option maxRecDepth 100000

theorem Only.frozen {R : Nat} {w w' : World} (h : Only R w w') {x : Addr} (hx : x.block < w.heap.size) (hR : x.block ≠ R) : w'.frozen? x = w.frozen? x := by
  simp only [World.frozen?, h.block x.block hx hR]
/-- A table of bools, whatever they are. -/
def TabE (g tl : Nat) (w : World) : Prop := ∃ F, TabIs g tl F w
theorem TabE.put {g tl x : Nat} {w : World} (h : TabE g tl w) (hx : x < tl) (b : Bool) : TabE g tl (w.setCell ⟨g, x, none⟩ (.bool b)) := by
  obtain ⟨F, h⟩ := h
  refine ⟨fun c => if c = x then b else F c, by simpa [World.setCell] using h.lt, fun j hj => ⟨?_, ?_⟩⟩
  · by_cases e : j = x
    · subst e
      rw [World.cell?_setCell_same' _ _ _ (by rw [(h.c j hj).1]; rfl), if_pos rfl]
    · have e3 : (w.setCell ⟨g, x, none⟩ (.bool b)).cell? ⟨g, j, none⟩ = w.cell? ⟨g, j, none⟩ := World.cell?_setCell_other w _ _ _ (fun e2 => e (by have := (Addr.mk.inj e2).2.1; omega))
      rw [e3, (h.c j hj).1, if_neg (by omega)]
  · rw [World.frozen?_setCell]; exact (h.c j hj).2
theorem TabE.only {g tl R : Nat} {w w' : World} (h : TabE g tl w) (hO : Only R w w') (hne : g ≠ R) : TabE g tl w' := by
  obtain ⟨F, h⟩ := h
  exact ⟨F, Nat.lt_of_lt_of_le h.lt hO.size, fun j hj => ⟨(hO.cell (x := ⟨g, j, none⟩) h.lt hne).trans (h.c j hj).1, (hO.frozen (x := ⟨g, j, none⟩) h.lt hne).trans (h.c j hj).2⟩⟩
theorem Only.mine {R tb x : Nat} {w wr : World} (h : Only R w wr) (htb : w.heap.size ≤ tb) (v : Value) : Only R w (wr.setCell ⟨tb, x, none⟩ v) :=
  ⟨h.os, h.tape, h.output, by simpa [World.setCell] using h.size, fun k hk hR => (Below.heap_setCell wr _ v k (show k ≠ tb by omega)).trans (h.block k hk hR)⟩
theorem Only.blk {R g : Nat} {w w' : World} {o : Obj} (h : Only R w w') (hg : w.heap[g]? = some o) (hR : g ≠ R) : w'.heap[g]? = some o := (h.block g (blk_lt hg) hR).trans hg
/-- A set that is being drawn. -/
structure SetAt (B R tb tl : Nat) (q : Int) (w wr : World) : Prop where
  tab : TabE tb tl wr
  rd : RdTo B R q wr
  on : Only R w wr
  k0 : wr.heap[w.heap.size]? = some (.cells #[.int .i64 0, .slice none 0 0, .int .i64 0] 25 (0, 0))
  lt : R < w.heap.size
  tb : w.heap.size < tb
theorem SetAt.put {B R tb tl x : Nat} {q : Int} {w wr : World} (h : SetAt B R tb tl q w wr) (hx : x < tl) (b : Bool) : SetAt B R tb tl q w (wr.setCell ⟨tb, x, none⟩ (.bool b)) := by
  have hR := h.lt
  have hT := h.tb
  have hBR := h.rd.le
  exact ⟨h.tab.put hx b, h.rd.below ((Below.refl tb wr).setCell (p := ⟨tb, x, none⟩) (Nat.le_refl _) _) (by omega) (by omega), h.on.mine (by omega) _, (Below.heap_setCell wr _ _ _ (show w.heap.size ≠ tb by omega)).trans h.k0, hR, hT⟩
theorem SetAt.only {B R tb tl : Nat} {q q' : Int} {w wr w' : World} (h : SetAt B R tb tl q w wr) (hO : Only R wr w') (hr : RdTo B R q' w') : SetAt B R tb tl q' w w' := by
  have hR := h.lt
  have hT := h.tb
  exact ⟨h.tab.only hO (by omega), hr, h.on.trans hO, hO.blk h.k0 (by omega), hR, hT⟩
theorem SetAt.more {B R tb tl : Nat} {q q' : Int} {w wr : World} (h : SetAt B R tb tl q w wr) (hq : q ≤ q') : SetAt B R tb tl q' w wr := ⟨h.tab, h.rd.mono hq, h.on, h.k0, h.lt, h.tb⟩

theorem c_vars {B R : Nat} {p : Int} (w : World) (h : RdTo B R p w) (hp1 : p < 800000) :
    Calls Tryd.prog 35 #[.pointer (some ⟨R, 0, none⟩)] w fun e w' => ∃ v, e = .returned (.int .i64 v) ∧ -1 ≤ v ∧ v ≤ 14 ∧ RdTo B R (p + 2) w' ∧ Only R w w' := by
  go_enter Tryd.func35, Tryd.ntmps35
  go_wp2_with fail
  refine (k_pick _ _ h (by omega)).mono ?_
  rintro e w1 ⟨v1, rfl, hv1, hR1, hO1⟩
  go_wp2_with fail
  · have hR := hR1.lt
    refine (k_pick _ _ (hR1.alloc _) (by omega)).mono ?_
    rintro e w2 ⟨v2, rfl, hv2, hR2, hO2⟩
    have hv := hv2 (by omega)
    have hc : ∀ i, w2.cell? ⟨w1.heap.size, i, none⟩ = _ := fun i => hO2.cell (x := ⟨w1.heap.size, i, none⟩) (alloc_lt _ _) (by simp; omega)
    have c0 := hc 0; have c1 := hc 1; have c2 := hc 2; have c3 := hc 3; have c4 := hc 4
    have HR : Hid (RdTo B R (p + 2) w2) := hR2.mono (by omega)
    have HO : Hid (Only R w w2) := (hO1.alloc _).trans hO2
    clear hc hR1 hO1 hR2 hO2 hv1 hv2 h
    rcases (by omega : v2 = 0 ∨ v2 = 1 ∨ v2 = 2 ∨ v2 = 3 ∨ v2 = 4) with rfl | rfl | rfl | rfl | rfl
    all_goals (go_wp2; go_ret; exact ⟨_, rfl, by omega, by omega, HR.out, HO.out⟩)
  · refine (k_pick _ _ hR1 (by omega)).mono ?_
    rintro e w2 ⟨v2, rfl, hv2, hR2, hO2⟩
    have hv := hv2 (by omega)
    have HR : Hid (RdTo B R (p + 2) w2) := hR2.mono (by omega)
    have HO : Hid (Only R w w2) := hO1.trans hO2
    clear hR1 hO1 hR2 hO2 hv1 hv2 h
    go_wp2
    go_ret
    exact ⟨_, rfl, by omega, by omega, HR.out, HO.out⟩

/-- How many of the lowest k bits are 1. -/
def onesD : Nat → Int → Int
  | 0, _ => 0
  | k + 1, a => onesD k a + a / 2 ^ k % 2
theorem onesD_bound (k : Nat) (a : Int) : 0 ≤ onesD k a ∧ onesD k a ≤ k := by
  induction k with
  | zero => exact ⟨Int.le_refl _, Int.le_refl _⟩
  | succ k ih => unfold onesD; omega
theorem c_l1OnesD (n a : Int) (h0 : 0 ≤ a) (h1 : 1 ≤ n) (h2 : n ≤ 16) (w : World) :
    Calls Tryd.prog 90 #[.int .i64 n, .int .i64 a] w fun e w' => (∃ v, e = .returned (.int .i64 v) ∧ 0 ≤ v ∧ v ≤ 16) ∧ w' = w := by
  go_enter Tryd.func90, Tryd.ntmps90
  go_wp2
  go_loop [5, 6] (fun t i => ∃ k : Nat, (k : Int) ≤ n ∧ i = .int .i64 k ∧ t = .int .i64 (onesD k a)) (fun _ i => (n - intOf i).toNat)
  case atStart => exact ⟨0, by omega, rfl, rfl⟩
  case round =>
    obtain ⟨k, hk, rfl, rfl⟩ := hrel
    have hb := onesD_bound k a
    have hw : wrap64 (onesD k a + a / 2 ^ k % 2) = onesD k a + a / 2 ^ k % 2 := IntWalk.wrap64_in _ (by omega)
    go_wp2_with (go_at_call 82; refine (c_l1Bit _ _ h0 (by omega) (by omega) _).mono ?_; rintro e w' ⟨rfl, rfl⟩)
    · go_round
      case rel => exact ⟨k + 1, by omega, by go_num, rfl⟩
      case measure => simp [intOf]; omega
    · have hkn : k = n.toNat := by omega
      subst hkn
      go_ret
      exact ⟨⟨_, rfl, by omega, by omega⟩, rfl⟩

/-- What is drawn is laid: the reader, and the cell of the result. -/
structure DrAt (B R : Nat) (q : Int) (w wr : World) : Prop where
  rd : RdTo B R q wr
  on : Only R w wr
  k0 : wr.heap[w.heap.size]? = some (.cells #[.int .i64 0, .slice none 0 0, .int .i64 0] 25 (0, 0))
  lt : R < w.heap.size
theorem DrAt.setc {B R g x : Nat} {q : Int} {w wr : World} (h : DrAt B R q w wr) (hg : w.heap.size < g) (v : Value) : DrAt B R q w (wr.setCell ⟨g, x, none⟩ v) := by
  have hR := h.lt
  have hBR := h.rd.le
  exact ⟨h.rd.below ((Below.refl g wr).setCell (p := ⟨g, x, none⟩) (Nat.le_refl _) _) (by omega) (by omega), h.on.mine (by omega) _, (Below.heap_setCell wr _ _ _ (show w.heap.size ≠ g by omega)).trans h.k0, hR⟩
theorem DrAt.only {B R : Nat} {q q' : Int} {w wr w' : World} (h : DrAt B R q w wr) (hO : Only R wr w') (hr : RdTo B R q' w') : DrAt B R q' w w' := by
  have hR := h.lt
  exact ⟨hr, h.on.trans hO, hO.blk h.k0 (by omega), hR⟩
theorem DrAt.below {B R : Nat} {q : Int} {w wr w' : World} (h : DrAt B R q w wr) (hb : Below wr.heap.size wr w') : DrAt B R q w w' := by
  have hR := h.lt
  have hs := h.on.size
  have hBR := h.rd.le
  exact h.only (.of_below hb) (h.rd.below hb (by omega) (by omega))
theorem DrAt.more {B R : Nat} {q q' : Int} {w wr : World} (h : DrAt B R q w wr) (hq : q ≤ q') : DrAt B R q' w wr := ⟨h.rd.mono hq, h.on, h.k0, h.lt⟩
theorem DrAt.fin {B R : Nat} {q : Int} {w wr : World} (h : DrAt B R q w wr) (a b c : Value) : RdTo B R q (((wr.setCell ⟨w.heap.size, 0, none⟩ a).setCell ⟨w.heap.size, 1, none⟩ b).setCell ⟨w.heap.size, 2, none⟩ c) ∧ Only R w (((wr.setCell ⟨w.heap.size, 0, none⟩ a).setCell ⟨w.heap.size, 1, none⟩ b).setCell ⟨w.heap.size, 2, none⟩ c) := by
  have hR := h.lt
  have hBR := h.rd.le
  refine ⟨h.rd.below ((((Below.refl w.heap.size wr).setCell (p := ⟨w.heap.size, 0, none⟩) (Nat.le_refl _) a).setCell (p := ⟨w.heap.size, 1, none⟩) (Nat.le_refl _) b).setCell (p := ⟨w.heap.size, 2, none⟩) (Nat.le_refl _) c) (by omega) (by omega), ((h.on.mine (Nat.le_refl _) _).mine (Nat.le_refl _) _).mine (Nat.le_refl _) _⟩
theorem OwnN.off {w : World} {base g x : Nat} {v z : Value} {ns : List BN} (h : OwnN w base v ns) (hg : ∀ y, v.ownBlock = some y → y ≠ g) : OwnN (w.setCell ⟨g, x, none⟩ z) base v ns :=
  h.block (fun y _ _ hy => Below.heap_setCell w _ _ _ (hg y hy))
theorem ansR_yes {vars : Int} (hv : 0 ≤ vars) : AnsR vars (fun _ => true) vars [] 1 true :=
  ⟨.leaf true, trivial, fun _ _ _ => rfl, [], 1, .leaf true [], .inl ⟨by decide, rfl, rfl, rfl, rfl⟩⟩

/-- What is drawn: a set that is one. -/
def DrawnQ (B R : Nat) (p vars : Int) (w : World) (e : Ending) (w' : World) : Prop :=
  ∃ x Rt ms, e = .returned (.agg #[.int .i64 vars, x, .int .i64 Rt]) ∧ OwnN w' w.heap.size x ms ∧ (∃ f, AnsR vars f vars ms Rt true) ∧ RdTo B R (p + 8200) w' ∧ Only R w w'

set_option maxHeartbeats 8000000 in
theorem c_set {B R : Nat} {p : Int} (vars : Int) (w : World) (h : RdTo B R p w) (hp1 : p < 700000) (hv0 : 0 ≤ vars) (hv13 : vars ≤ 13) :
    Calls Tryd.prog 69 #[.pointer (some ⟨R, 0, none⟩), .int .i64 vars] w (DrawnQ B R p vars w) := by
  have H := Go.Lib.hid h
  have HRl := Go.Lib.hid h.lt
  clear h
  go_enter Tryd.func69, Tryd.ntmps69
  go_upto_region 1 with fail
  refine code_gen (R := fun wb => wb.heap[w.heap.size]? = some (.cells #[.int .i64 0, .slice none 0 0, .int .i64 0] 25 (0, 0)) ∧ RdTo B R p wb ∧ Only R w wb ∧ wb.heap.size = w.heap.size + 1) ⟨(MapKept.heap_alloc _ _).1, H.out.alloc _, (Only.refl R w).alloc _, by show (w.heap.push _).size = _; simp⟩ ?_
  rintro w0 ⟨k0, r0, o0, s0⟩
  have K0 := Go.Lib.hid k0
  have R0 := Go.Lib.hid r0
  have O0 := Go.Lib.hid o0
  clear k0 r0 o0
  obtain ⟨tl, htl⟩ : ∃ tl : Nat, (tl : Int) = 2 ^ vars.toNat := ⟨2 ^ vars.toNat, by simp⟩
  have hw2 : wrap64 (2 ^ min (IntKind.u64.wrap vars).toNat 64) = (tl : Int) := by
    rw [IntWalk.u64_in _ (by omega), Nat.min_eq_left (by omega), wrap_p2 (by omega)]; exact htl.symm
  have hw2b : wrap64 (2 ^ vars.toNat) = (tl : Int) := by rw [wrap_p2 (by omega)]; exact htl.symm
  have htl8 : tl ≤ 8192 := by have h1 := p2_13 hv0 hv13; omega
  have HTL := Go.Lib.hid htl
  obtain ⟨i0, hi0, hz0, hz1, hz2⟩ := info_parts boolInfo
  obtain ⟨w9, hrun, hown, hgrow⟩ := run_make_full (P := Tryd.prog) w0 w0.heap.size 64 4 i0 _ 1 Tryd.underlying64 hi0 hz0 hz1 .i64 .i64 tl (by rw [hz2]; omega) (by unfold maxLen; omega) (Nat.le_refl _)
  have HC9 := Go.Lib.hid (tab_false (F := fun _ => false) (fun j => rfl) hown hgrow)
  have HS9 := Go.Lib.hid (show SetAt B R w0.heap.size tl p w w9 from ⟨⟨_, HC9.out.1⟩, R0.out.below HC9.out.2 (by have := HRl.out; omega) (by have := HRl.out; have := H.out.le; omega), O0.out.trans (.of_below HC9.out.2), (HC9.out.2.block _ (blk_lt K0.out)).trans K0.out, HRl.out, by omega⟩)
  clear hi0 hz0 hz1 hz2 hown hgrow htl
  go_upto_region 2 with fail
  clear hrun hw2 hw2b HC9 R0 O0 K0
  obtain ⟨tb, htb⟩ : ∃ k, w.heap.size + 1 = k := ⟨_, rfl⟩
  rw [s0, htb] at HS9
  rw [htb]
  clear htb s0
  go_wp2_with fail
  refine (k_pick _ _ HS9.out.rd (by omega)).mono ?_
  rintro e w1 ⟨v1, rfl, hv1, hR1, hO1⟩
  have hv1 := hv1 (by omega)
  have HS1 := Go.Lib.hid (HS9.out.only hO1 hR1)
  clear hR1 hO1 HS9
  go_wp2_with fail
  refine (k_pick _ _ HS1.out.rd (by omega)).mono ?_
  rintro e w2 ⟨v2, rfl, hv2, hR2, hO2⟩
  have hv2 := hv2 (by omega)
  have HS2 := Go.Lib.hid (HS1.out.only hO2 hR2)
  clear hR2 hO2 HS1
  go_wp2_with fail
  refine (k_pick _ _ HS2.out.rd (by omega)).mono ?_
  rintro e w3 ⟨v3, rfl, hv3, hR3, hO3⟩
  have hv3 := hv3 (by omega)
  have HS3 := Go.Lib.hid (HS2.out.only hO3 hR3)
  clear hR3 hO3 HS2
  go_wp2_with fail
  go_loopw [9] (fun q wr => ∃ k : Nat, k ≤ tl ∧ q = .int .i64 k ∧ SetAt B R tb tl (p + 3 + k) w wr) (fun q _ => tl - (intOf q).toNat)
  case atStart => exact ⟨0, by omega, rfl, HS3.out.more (by omega)⟩
  case round =>
    obtain ⟨k, hk, rfl, hset⟩ := hrel
    have HS := Go.Lib.hid hset
    obtain ⟨F, hF⟩ := hset.tab
    clear hset
    by_cases hkl : k < tl
    · have hki : (k : Int) < tl := by omega
      have x0 := (hF.c k hkl).1
      have x1 := (hF.c k hkl).2
      clear hF
      rcases (by omega : v1 = 0 ∨ v1 = 1 ∨ v1 = 2 ∨ v1 = 3 ∨ v1 = 4 ∨ v1 = 5) with rfl | rfl | rfl | rfl | rfl | rfl
      · have e7 : v2.tmod 7 = v2 % 7 := Int.tmod_eq_emod_of_nonneg (by omega)
        have hn7 : ¬ v2 % 7 + 1 = 0 := by omega
        go_wp2_with fail
        go_roundw
        case rel => exact ⟨k + 1, by omega, by go_num, (HS.out.put hkl _).more (by omega)⟩
        case measure => simp [intOf]; omega
      · go_wp2_with (go_at_call 90; refine (c_l1OnesD _ _ (by omega) (by omega) (by omega) _).mono ?_; rintro e w' ⟨⟨vo, rfl, ho0, ho1⟩, rfl⟩)
        go_roundw
        case rel => exact ⟨k + 1, by omega, by go_num, (HS.out.put hkl _).more (by omega)⟩
        case measure => simp [intOf]; omega
      · go_wp2_with fail
        go_roundw
        case rel => exact ⟨k + 1, by omega, by go_num, (HS.out.put hkl _).more (by omega)⟩
        case measure => simp [intOf]; omega
      · go_wp2_with fail
        all_goals
          go_roundw
          case rel => exact ⟨k + 1, by omega, by go_num, (HS.out.put hkl _).more (by omega)⟩
          case measure => simp [intOf]; omega
      · go_wp2_with fail
        go_roundw
        case rel => exact ⟨k + 1, by omega, by go_num, (HS.out.put hkl _).more (by omega)⟩
        case measure => simp [intOf]; omega
      · go_wp2_with fail
        refine (k_pick _ _ HS.out.rd (by omega)).mono ?_
        rintro e w4 ⟨v4, rfl, hv4, hR4, hO4⟩
        have HS4 := Go.Lib.hid (HS.out.only hO4 hR4)
        obtain ⟨F, hF⟩ := HS4.out.tab
        have x0 := (hF.c k hkl).1
        have x1 := (hF.c k hkl).2
        clear hF hR4 hO4
        go_wp2_with fail
        go_roundw
        case rel => exact ⟨k + 1, by omega, by go_num, (HS4.out.put hkl _).more (by omega)⟩
        case measure => simp [intOf]; omega
    · have hki : ¬ (k : Int) < tl := by omega
      have HBO := Go.Lib.hid (hF.bools htl8)
      clear hF
      go_wp2_with fail
      refine (c_l7Of (B := wr.heap.size) hv0 hv13 HTL.out wr (Nat.le_refl _) HBO.out).mono ?_
      rintro e wf ⟨x, V, Rt, bb, ms, rfl, hown, hrel, hq⟩
      have HSf := Go.Lib.hid (HS.out.only (.of_below hq) (HS.out.rd.below hq (Nat.lt_of_lt_of_le HS.out.lt HS.out.on.size) (Nat.le_trans HS.out.rd.le (Nat.le_of_lt (Nat.lt_of_lt_of_le HS.out.lt HS.out.on.size)))))
      have HOW := Go.Lib.hid (OwnN.mono hown HS.out.on.size)
      have HREL := Go.Lib.hid hrel
      obtain ⟨xa, xc, rfl, -⟩ := OwnN.form hown
      have HK := Go.Lib.hid (show ∀ y, Value.ownBlock (.slice xa ms.length xc) = some y → w.heap.size < y ∧ y < wf.heap.size from fun y hy => ⟨Nat.lt_of_lt_of_le (blk_lt HS.out.k0) (hown.1.lt y hy).1, (hown.1.lt y hy).2⟩)
      clear hown hrel hq HBO
      go_upto_region 21 with fail
      refine code_gen (R := fun wb => wb.heap[wf.heap.size]? = some (.cells #[.int .i64 V, .slice xa ms.length xc, .int .i64 Rt] 25 (0, 0)) ∧ Below wf.heap.size wf wb) ⟨by first | exact (MapKept.heap_alloc _ _).1 | exact heap_alloc_new _ _, by go_grown⟩ ?_
      rintro wg ⟨k1, hq⟩
      have KB := Go.Lib.hid k1
      have DR := Go.Lib.hid ((show DrAt B R (p + 3 + k) w wf from ⟨HSf.out.rd, HSf.out.on, HSf.out.k0, HSf.out.lt⟩).below hq)
      have HOG := Go.Lib.hid (HOW.out.below hq)
      have HGB := Go.Lib.hid (show w.heap.size < wf.heap.size from Nat.lt_of_lt_of_le HSf.out.tb (Nat.le_of_lt (by obtain ⟨F, hF⟩ := HSf.out.tab; exact hF.lt)))
      clear k1 hq HOW HSf HS
      obtain ⟨gb, hgb⟩ : ∃ k, wf.heap.size = k := ⟨_, rfl⟩
      rw [hgb] at KB HGB HK ⊢
      clear hgb
      cases bb with
      | true =>
        have hVV := (HREL.out.is ⟨hv0, hv13⟩).1.symm
        subst hVV
        have z0 := cell_of_block (i := 0) DR.out.k0 (v := .int .i64 0) rfl
        have f0 := free_of_block (i := 0) DR.out.k0
        have z1 := cell_of_block (i := 1) DR.out.k0 (v := .slice none 0 0) rfl
        have f1 := free_of_block (i := 1) DR.out.k0
        have z2 := cell_of_block (i := 2) DR.out.k0 (v := .int .i64 0) rfl
        have f2 := free_of_block (i := 2) DR.out.k0
        have y0 := cell_of_block (i := 0) KB.out (v := .int .i64 vars) rfl
        have y1 := cell_of_block (i := 1) KB.out (v := .slice xa ms.length xc) rfl
        have y2 := cell_of_block (i := 2) KB.out (v := .int .i64 Rt) rfl
        go_wp2_with fail
        refine bodyPost_ret (v := .agg #[.int .i64 vars, .slice xa ms.length xc, .int .i64 Rt]) (results_cell_row rfl _ _ w.heap.size 25 _ (0, 0) _ rfl (heap_setCell_same _ _ 2 _ _ _ (heap_setCell_same _ _ 1 _ _ _ (heap_setCell_same _ _ 0 _ _ _ DR.out.k0))) Tryd.underlying25 rfl (by kernel_rfl)) rfl ⟨_, _, ms, rfl, ?_, ⟨_, HREL.out⟩, (DR.out.fin _ _ _).1.mono (by omega), (DR.out.fin _ _ _).2⟩
        exact ((HOG.out.off (fun y hy => by have := (HK.out y hy).1; omega)).off (fun y hy => by have := (HK.out y hy).1; omega)).off (fun y hy => by have := (HK.out y hy).1; omega)
      | false =>
        have y0 := cell_of_block (i := 0) KB.out (v := .int .i64 V) rfl
        have y1 := cell_of_block (i := 1) KB.out (v := .slice xa ms.length xc) rfl
        have y2 := cell_of_block (i := 2) KB.out (v := .int .i64 Rt) rfl
        go_wp2_with fail
        refine (c_BddConstS vars true vars 1 true (by unfold cR; rw [if_pos (show varsB vars = true from decide_eq_true ⟨hv0, hv13⟩)]; rfl) wg).mono ?_
        rintro e wh ⟨rfl, hq⟩
        replace KB := Go.Lib.hid ((hq.block _ (blk_lt KB.out)).trans KB.out)
        replace DR := Go.Lib.hid (DR.out.below hq)
        clear hq y0 y1 y2 HOG HK
        have y0 := cell_of_block (i := 0) KB.out (v := .int .i64 V) rfl
        have y1 := cell_of_block (i := 1) KB.out (v := .slice xa ms.length xc) rfl
        have y2 := cell_of_block (i := 2) KB.out (v := .int .i64 Rt) rfl
        have f0 := free_of_block (i := 0) KB.out
        have f1 := free_of_block (i := 1) KB.out
        have f2 := free_of_block (i := 2) KB.out
        go_upto_region 23 with fail
        refine code_gen (R := fun wb => wb.heap[gb]? = some (.cells #[.int .i64 vars, .slice none 0 0, .int .i64 1] 25 (0, 0)) ∧ DrAt B R (p + 3 + k) w wb) ⟨heap_setCell_same _ _ 2 _ _ _ (heap_setCell_same _ _ 1 _ _ _ (heap_setCell_same _ _ 0 _ _ _ KB.out)), ((DR.out.setc HGB.out _).setc HGB.out _).setc HGB.out _⟩ ?_
        clear y0 y1 y2 f0 f1 f2
        rintro wj ⟨k1, k2⟩
        replace KB := Go.Lib.hid k1
        replace DR := Go.Lib.hid k2
        clear k1 k2
        have z0 := cell_of_block (i := 0) DR.out.k0 (v := .int .i64 0) rfl
        have f0 := free_of_block (i := 0) DR.out.k0
        have z1 := cell_of_block (i := 1) DR.out.k0 (v := .slice none 0 0) rfl
        have f1 := free_of_block (i := 1) DR.out.k0
        have z2 := cell_of_block (i := 2) DR.out.k0 (v := .int .i64 0) rfl
        have f2 := free_of_block (i := 2) DR.out.k0
        have y0 := cell_of_block (i := 0) KB.out (v := .int .i64 vars) rfl
        have y1 := cell_of_block (i := 1) KB.out (v := .slice none 0 0) rfl
        have y2 := cell_of_block (i := 2) KB.out (v := .int .i64 1) rfl
        go_wp2_with fail
        refine bodyPost_ret (v := .agg #[.int .i64 vars, .slice none 0 0, .int .i64 1]) (results_cell_row rfl _ _ w.heap.size 25 _ (0, 0) _ rfl (heap_setCell_same _ _ 2 _ _ _ (heap_setCell_same _ _ 1 _ _ _ (heap_setCell_same _ _ 0 _ _ _ DR.out.k0))) Tryd.underlying25 rfl (by kernel_rfl)) rfl ⟨_, _, [], rfl, ?_, ⟨_, ansR_yes hv0⟩, (DR.out.fin _ _ _).1.mono (by omega), (DR.out.fin _ _ _).2⟩
        exact OwnN.nil _ _
theorem BytesAt.mono {B C : Nat} {w : World} {a : Option Addr} {len cap : Nat} (h : BytesAt B w a len cap) (hB : B ≤ C) : BytesAt C w a len cap := by
  obtain ⟨h1, h2, h3, h4⟩ := h
  refine ⟨h1, h2, h3, ?_⟩
  rcases h4 with h4 | ⟨b, off, zs, h5, hlt, hc⟩
  · exact .inl h4
  · exact .inr ⟨b, off, zs, h5, Nat.lt_of_lt_of_le hlt hB, hc⟩

set_option maxHeartbeats 4000000 in
theorem c_GoodSet {B : Nat} {a : Option Addr} {len cap : Nat} (vars : Int) (w : World) (h : BytesAt B w a len cap) (hB : B ≤ w.heap.size) (hv0 : 0 ≤ vars) (hv13 : vars ≤ 13) :
    Calls Tryd.prog 27 #[.int .i64 vars, .slice a len cap] w fun e w' => ∃ x Rt ms, e = .returned (.agg #[.int .i64 vars, x, .int .i64 Rt]) ∧ OwnN w' w.heap.size x ms ∧ (∃ f, AnsR vars f vars ms Rt true) ∧ Below w.heap.size w w' := by
  have H := Go.Lib.hid (h.mono hB)
  clear h hB
  go_enter Tryd.func27, Tryd.ntmps27
  go_upto_region 1 with fail
  refine code_gen (R := fun wb => wb.heap[w.heap.size]? = some (.cells #[.int .i64 0, .slice none 0 0, .int .i64 0] 25 (0, 0)) ∧ Below w.heap.size w wb ∧ w.heap.size < wb.heap.size) ⟨(MapKept.heap_alloc _ _).1, by go_grown, by show _ < (w.heap.push _).size; simp⟩ ?_
  rintro w0 ⟨k0, b0, s0⟩
  have K0 := Go.Lib.hid k0
  have B0 := Go.Lib.hid b0
  clear k0 b0
  go_wp2_with fail
  refine (c_l17Open (B := w0.heap.size) w0 ((H.out.below B0.out).mono (Nat.le_of_lt s0)) (Nat.le_refl _)).mono ?_
  rintro e w1 ⟨rfl, r1, b1⟩
  have R1 := Go.Lib.hid r1
  have K1 := Go.Lib.hid ((b1.block _ (blk_lt K0.out)).trans K0.out)
  have B1 := Go.Lib.hid b1
  clear r1 b1 K0
  obtain ⟨R, hR⟩ : ∃ k, w0.heap.size = k := ⟨_, rfl⟩
  rw [hR] at R1 B1 s0 ⊢
  go_wp2_with fail
  refine (c_set vars w1 R1.out (by omega) hv0 hv13).mono ?_
  rintro e w2 ⟨x, Rt, ms, rfl, how, hf, hr, ho⟩
  obtain ⟨xa, xc, rfl, -⟩ := OwnN.form how
  have K2 := Go.Lib.hid (ho.blk K1.out (by omega))
  have HS := Go.Lib.hid (show w.heap.size ≤ w1.heap.size from Nat.le_of_lt (blk_lt K1.out))
  have B2 := Go.Lib.hid (B0.out.trans ((B1.out.trans (ho.below (Nat.le_refl _) (by have := B1.out.size; omega))).mono (by omega)))
  have HOW := Go.Lib.hid how
  have HK := Go.Lib.hid (show ∀ y, Value.ownBlock (.slice xa ms.length xc) = some y → y ≠ w.heap.size from fun y hy => by have h1 := (how.1.lt y hy).1; have h2 := blk_lt K1.out; omega)
  have HF := Go.Lib.hid hf
  clear how hf hr ho R1 K1 B1
  have z0 := cell_of_block (i := 0) K2.out (v := .int .i64 0) rfl
  have f0 := free_of_block (i := 0) K2.out
  have z1 := cell_of_block (i := 1) K2.out (v := .slice none 0 0) rfl
  have f1 := free_of_block (i := 1) K2.out
  have z2 := cell_of_block (i := 2) K2.out (v := .int .i64 0) rfl
  have f2 := free_of_block (i := 2) K2.out
  go_wp2_with fail
  refine bodyPost_ret (v := .agg #[.int .i64 vars, .slice xa ms.length xc, .int .i64 Rt]) (results_cell_row rfl _ _ w.heap.size 25 _ (0, 0) _ rfl (heap_setCell_same _ _ 2 _ _ _ (heap_setCell_same _ _ 1 _ _ _ (heap_setCell_same _ _ 0 _ _ _ K2.out))) Tryd.underlying25 rfl (by kernel_rfl)) rfl ⟨_, _, ms, rfl, ?_, HF.out, (((B2.out).setCell (p := ⟨w.heap.size, 0, none⟩) (Nat.le_refl _) _).setCell (p := ⟨w.heap.size, 1, none⟩) (Nat.le_refl _) _).setCell (p := ⟨w.heap.size, 2, none⟩) (Nat.le_refl _) _⟩
  exact OwnN.mono (((HOW.out.off HK.out).off HK.out).off HK.out) HS.out
end Go.Proofs.YthdofdglbdfkkaaDoor
