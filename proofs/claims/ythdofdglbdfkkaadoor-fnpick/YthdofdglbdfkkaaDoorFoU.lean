/-
  A diagram is laid into a forest.
-/
import Derived.Test.YthdofdglbdfkkaaDoorRows
import Derived.Test.YthdofdglbdfkkaaDoorG0
import Derived.Test.YthdofdglbdfkkaaDoorBdI
import Derived.Test.YthdofdglbdfkkaaDoorFoW
import Derived.Test.YthdofdglbdfkkaaDoorFoP
import Derived.Test.YthdofdglbdfkkaaDoorFoL
import Derived.WalkKit
import Derived.ProofKit
import Derived.OpenShut
import Derived.WalkSpells
import Derived.WalkLawsBesides
import Derived.Outline
import Derived.BigQuiet
import Derived.Handy
import Derived.LoopTactic
import Derived.Deep.Light
import Derived.Deep.RegionWith
import Derived.Deep.RegionHeld3
import Derived.Deep.DeepCutAuto
import Derived.Lib.Hide
import Derived.Maps.OwnRows
import Derived.Deep.Onto
import Derived.OneCell
import Derived.StillTailTactics
import Derived.Deep.AppendLies
import Derived.Deep.RegionLaw
namespace Go.Proofs.YthdofdglbdfkkaaDoor
open Go.ChangeShapes Go.WideShapes Go.ChangeAt Go.RowKit Go.Maps Go.ChangeMaps
set_option linter.unusedVariables false
set_option maxRecDepth 100000

theorem ints_shape {w : World} {base : Nat} {v : Value} {zs : List Int} (h : w.ownsInts base 3 .i64 v zs) {g : Nat} (hg : v.ownBlock = some g) : ∃ cur, w.heap[g]? = some (.cells cur 3 (0, 0)) := by
  obtain ⟨⟨-, h1⟩, -⟩ := h
  rcases h1 with ⟨rfl, -⟩ | ⟨g', cap, cur, rfl, -, h2, -⟩
  · simp [Value.ownBlock] at hg
  · simp only [Value.ownBlock, Option.some.injEq] at hg
    subst hg
    exact ⟨cur, h2⟩
theorem ints_apart {vars : Int} {fb mb pb base : Nat} {v pv : Value} {F : List BN} {np : Nat} {L : List Int} {w : World} (h : ForestAt vars fb mb pb v F np w) (ho : w.ownsInts base 3 .i64 pv L) {g : Nat} (hg : pv.ownBlock = some g) : ¬ FB fb mb pb v g := by
  obtain ⟨cur, s⟩ := ints_shape ho hg
  rintro (rfl | rfl | rfl | hv)
  · rw [h.blk] at s; cases s
  · obtain ⟨e1, c1, s1⟩ := h.plc.shape
    rw [s1] at s; cases s
  · obtain ⟨M, m1, -⟩ := h.prs
    obtain ⟨e1, c1, s1⟩ := m1.shape
    rw [s1] at s; cases s
  · obtain ⟨cur2, s2⟩ := own_shape h.own hv
    rw [s2] at s
    injection s with s
    injection s with _ s3 _
    exact absurd s3 (by decide)
theorem ints_keep {vars : Int} {fb mb pb base : Nat} {v v' pv : Value} {F : List BN} {np : Nat} {L : List Int} {w w' : World} (h : ForestAt vars fb mb pb v F np w) (ho : w.ownsInts base 3 .i64 pv L) (hs : FStep fb mb pb v w v' w') : w'.ownsInts base 3 .i64 pv L :=
  own_block ho (fun g _ hl hg => hs.block g hl (ints_apart h ho hg))
theorem lay_app {vars : Int} {fb mb pb base : Nat} {v v1 pv pv' : Value} {F1 : List BN} {np : Nat} {L : List Int} {p : Int} {w w2 w4 : World} {o : Obj} (hf : ForestAt vars fb mb pb v1 F1 np w2) (hs : FStep fb mb pb v w v1 w2) (hb : w.heap.size ≤ base) (ho : w2.ownsInts base 3 .i64 pv L)
    (hg : (w2.alloc o).grownBy w4 pv.ownBlock) (hown : w4.ownsRow base 3 1 pv' (L.length + 1) (L.map (Value.int .i64) ++ [.int .i64 p])) (hp : fits p) :
    ForestAt vars fb mb pb v1 F1 np w4 ∧ FStep fb mb pb v w v1 w4 ∧ (∀ k, k < base → k < w2.heap.size → w4.heap[k]? = w2.heap[k]?) ∧ w4.ownsInts base 3 .i64 pv' (L ++ [p]) ∧ ∃ g cap, pv' = .slice (some ⟨g, 0, none⟩) (L.length + 1) cap := by
  have hk : ∀ k, k < w2.heap.size → pv.ownBlock ≠ some k → w4.heap[k]? = w2.heap[k]? := fun k hk hn => (hg.block k (Nat.lt_trans hk (alloc_ltS _ _)) (fun e => hn e.symm)).trans (Below.heap_alloc _ _ _ hk)
  have hbs : ∀ k, pv.ownBlock = some k → base ≤ k := fun k hk => (ho.1.lt k hk).1
  refine ⟨hf.keep (fun g hgg => hk g (hf.lt hgg) (fun e => ints_apart hf ho e hgg)), ⟨hg.os.trans hs.os, hg.tape.trans hs.tape, hg.output.trans hs.output, Nat.le_trans hs.size (Nat.le_trans (Nat.le_of_lt (alloc_ltS w2 o)) hg.size), fun k hk' hn => (hk k (Nat.lt_of_lt_of_le hk' hs.size) (fun e => by have := hbs k e; omega)).trans (hs.block k hk' hn), hs.own⟩, fun k h1 h2 => hk k h2 (fun e => by have := hbs k e; omega), ⟨?_, ?_⟩, ?_⟩
  · rw [List.length_append, List.map_append]
    exact hown
  · intro z hz
    rw [List.mem_append] at hz
    rcases hz with hz | hz
    · exact ho.2 z hz
    · simp at hz; subst hz; exact hp
  · obtain ⟨-, h1⟩ := hown
    rcases h1 with ⟨-, h2⟩ | ⟨g, cap, cur, h2, -⟩
    · omega
    · exact ⟨g, cap, h2⟩

def LayQ (vars : Int) (fb mb pb : Nat) (v : Value) (F : List BN) (np : Nat) (ns : List BN) (root i : Int) (yes : Bool) (w : World) (e : Ending) (w' : World) : Prop :=
  ∃ p v' F', e = .returned (.int .i64 p) ∧ ForestAt vars fb mb pb v' F' np w' ∧ (∃ G, F' = F ++ G) ∧ InF F' p ∧ (∀ c, evF F' p c = evF ns root (fixc i yes c)) ∧ FStep fb mb pb v w v' w' ∧ F'.length ≤ F.length + 600
theorem two_ints (w : World) (t : TypeId) (base : Nat) (hb : base ≤ w.heap.size) (ht : t = 3) : (w.alloc (.cells #[.int .i64 0, .int .i64 1] t)).ownsInts base 3 .i64 (.slice (some ⟨w.heap.size, 0, none⟩) 2 2) [0, 1] := by
  subst ht
  exact ⟨⟨rfl, .inr ⟨w.heap.size, 2, _, rfl, hb, (MapKept.heap_alloc _ _).1, Nat.le_refl _, by decide, rfl, rfl⟩⟩, fun z hz => by
    simp only [List.mem_cons, List.not_mem_nil, or_false] at hz
    rcases hz with rfl | rfl
    · exact WalkArith.wf_i64 (by omega)
    · exact WalkArith.wf_i64 (by omega)⟩

set_option maxHeartbeats 16000000 in
theorem c_layFixed {vars : Int} {fb mb pb B : Nat} {v : Value} {F : List BN} {np : Nat} {a : Option Addr} {len cap : Nat} {ns : List BN} (root i : Int) (yes : Bool) (w : World) (h : ForestAt vars fb mb pb v F np w) (hB : ∀ g, FB fb mb pb v g → B ≤ g) (hBw : B ≤ w.heap.size) (hn : BnsAt B w a len cap ns) (hok : OkB vars ns root) (hroom : F.length ≤ 900000) :
    Calls Tryd.prog 56 #[.pointer (some ⟨fb, 0, none⟩), .agg #[.int .i64 vars, .slice a len cap, .int .i64 root], .int .i64 i, .bool yes] w (LayQ vars fb mb pb v F np ns root i yes w) := by
  have HF := Go.Lib.hid h
  have HN := Go.Lib.hid hn
  have HO := Go.Lib.hid hok
  have HFB := Go.Lib.hid hB
  have hnl : ns.length = len := hn.1
  have HNL := Go.Lib.hid hnl
  have HNS := Go.Lib.hid (show Frs vars ns from ⟨hok.fine, hok.once⟩)
  have hv13 : vars ≤ 13 := by have := hok.hv.2; omega
  have HV13 := Go.Lib.hid hv13
  have hl6 : len ≤ 600 := by have := hok.len; omega
  have HNF := Go.Lib.hid (show ¬ FB fb mb pb v w.heap.size from fun hg => Nat.lt_irrefl _ (h.lt hg))
  have hr0 := hok.hr.1
  have hr1 : root ≤ (len : Int) + 1 := by have := hok.hr.2; omega
  obtain ⟨rt, rfl⟩ : ∃ rt : Nat, root = rt := ⟨root.toNat, by omega⟩
  obtain ⟨i1, hi1, hz01, hz11, hz21⟩ := info_parts intInfo
  have HI1 := Go.Lib.hid hi1
  have HZ01 := Go.Lib.hid hz01
  have HZ11 := Go.Lib.hid hz11
  have HZ21 := Go.Lib.hid hz21
  clear h hn hok hB hnl hi1 hz01 hz11 hz21 hv13
  go_enter Tryd.func56, Tryd.ntmps56
  go_upto_region 1 with fail
  refine code_gen (R := fun wb => BBox vars a len cap (rt : Int) w wb) (BBox.new _ _ _ _ _ _) ?_
  intro w0 hbox
  have HX0 := Go.Lib.hid hbox
  have hw0 : w.heap.size < w0.heap.size := hbox.lt
  have HB0 := Go.Lib.hid hbox.bel
  clear hbox
  go_upto_region 2 with fail
  refine code_gen (R := fun wb => wb.heap[w.heap.size]? = some (.cells #[.int .i64 vars, .slice a len cap, .int .i64 (rt : Int)] 25 (0, 0)) ∧ ForestAt vars fb mb pb v F np wb ∧ FStep fb mb pb v w v wb ∧ wb.ownsInts (w.heap.size + 1) 3 .i64 (.slice (some ⟨w0.heap.size, 0, none⟩) 2 2) [0, 1]) ⟨(Below.heap_alloc _ _ _ hw0).trans HX0.out.blk, HF.out.below (HB0.out.trans (Below.mono (show Below w0.heap.size w0 _ by go_grown) HB0.out.size)), FStep.of_below (HB0.out.trans (Below.mono (show Below w0.heap.size w0 _ by go_grown) HB0.out.size)), two_ints w0 _ _ hw0 rfl⟩ ?_
  rintro w1 ⟨hbx, hf1, hs1, hown⟩
  have HBX1 := Go.Lib.hid hbx
  have HF1 := Go.Lib.hid hf1
  have HS1 := Go.Lib.hid hs1
  have HO1 := Go.Lib.hid hown
  have x1 := cell_of_block (i := 1) hbx (v := .slice a len cap) rfl
  clear hbx hf1 hs1 hown HX0 HB0
  obtain ⟨g0, hg0⟩ : ∃ g, w0.heap.size = g := ⟨_, rfl⟩
  rw [hg0] at HO1 ⊢
  clear hg0 hw0
  go_wp2_with fail
  clear x1
  go_loopw [9, 18] (fun s q wr => ∃ (k : Nat) (sa : Option Addr) (sc : Nat) (L : List Int) (v1 : Value) (F1 : List BN), k ≤ len ∧ q = .int .i64 k ∧ s = .slice sa (k + 2) sc ∧ wr.ownsInts (w.heap.size + 1) 3 .i64 (.slice sa (k + 2) sc) L ∧ L.length = k + 2 ∧ Lays vars ns F1 i yes L ∧ ForestAt vars fb mb pb v1 F1 np wr ∧ (∃ G, F1 = F ++ G) ∧ F1.length ≤ F.length + k ∧ FStep fb mb pb v w v1 wr ∧ wr.heap[w.heap.size]? = some (.cells #[.int .i64 vars, .slice a len cap, .int .i64 (rt : Int)] 25 (0, 0))) (fun _ q _ => len - (intOf q).toNat)
  case atStart => exact ⟨0, some ⟨g0, 0, none⟩, 2, [0, 1], v, F, by omega, rfl, rfl, HO1.out, rfl, Lays.start _ _ _ _ _, HF1.out, ⟨[], by simp⟩, by omega, HS1.out, HBX1.out⟩
  case round =>
    obtain ⟨k, sa, sc, L, v1, F1, hk, rfl, rfl, hown, hL, hlay, hf, hG, hlen, hs, hbx⟩ := hrel
    have HOW := Go.Lib.hid hown
    have HL := Go.Lib.hid hL
    have HLAY := Go.Lib.hid hlay
    have HFW := Go.Lib.hid hf
    have HG := Go.Lib.hid hG
    have HLEN := Go.Lib.hid hlen
    have HS := Go.Lib.hid hs
    have HBX := Go.Lib.hid hbx
    clear hown hL hlay hf hG hlen hs hbx HO1 HF1 HS1 HBX1
    by_cases hkl : k < len
    · have hki : (k : Int) < len := by omega
      have HBW := Go.Lib.hid (HS.out.below hBw HFB.out)
      obtain ⟨x, b, off, hx, -, rfl, hbB, c0, c1, c2⟩ := bn_at (HN.out.below HBW.out) hkl
      have hfx := HNS.out.fine k (by have := HNL.out; omega)
      unfold nFine at hfx
      rw [← hx] at hfx
      obtain ⟨⟨f0, f1⟩, -, ⟨f3, f4⟩, ⟨f5, f6⟩, -, -⟩ := hfx
      have HXX := Go.Lib.hid hx
      obtain ⟨xv, xl, xh⟩ := x
      simp only at c0 c1 c2 f0 f1 f3 f4 f5 f6
      obtain ⟨pl, rfl⟩ : ∃ p : Nat, xl = p := ⟨xl.toNat, by omega⟩
      obtain ⟨ph, rfl⟩ : ∃ p : Nat, xh = p := ⟨xh.toNat, by omega⟩
      have HV0 := Go.Lib.hid f0
      have HV1 := Go.Lib.hid f1
      clear hx
      go_upto_region 5 with fail
      refine code_gen (R := fun wb => wb.heap[wr.heap.size]? = some (.cells #[.int .i64 xv, .int .i64 pl, .int .i64 ph] 67 (0, 0)) ∧ Below wr.heap.size wr wb) ⟨by first | exact (MapKept.heap_alloc _ _).1 | exact heap_alloc_new _ _, by go_grown⟩ ?_
      rintro w2 ⟨k2, hb2⟩
      have HF2 := Go.Lib.hid (HFW.out.below hb2)
      have HS2 := Go.Lib.hid (HS.out.then hb2)
      have HO2 := Go.Lib.hid (ownI_below HOW.out hb2)
      have HBX2 := Go.Lib.hid ((hb2.block _ (Array.getElem?_eq_some_iff.1 HBX.out).1).trans HBX.out)
      have y0 := cell_of_block (i := 0) k2 (v := .int .i64 xv) rfl
      have y1 := cell_of_block (i := 1) k2 (v := .int .i64 pl) rfl
      have y2 := cell_of_block (i := 2) k2 (v := .int .i64 ph) rfl
      clear c0 c1 c2 k2 hb2
      obtain ⟨z1, b3, o3, hz1, -, rfl, hbB3, u1⟩ := int_at (own_ints HO2.out HL.out.symm) (show pl < k + 2 by omega)
      obtain ⟨z2, b4, o4, hz2, -, e4, -, u2⟩ := int_at (own_ints HO2.out HL.out.symm) (show ph < k + 2 by omega)
      simp only [Option.some.injEq, Addr.mk.injEq, and_true] at e4
      obtain ⟨rfl, rfl⟩ := e4
      have HZ1 := Go.Lib.hid (show L.getD (BN.mk xv pl ph).lo.toNat 0 = z1 from hz1)
      have HZ2 := Go.Lib.hid (show L.getD (BN.mk xv pl ph).hi.toNat 0 = z2 from hz2)
      have hpi : (pl : Int) < ((k + 2 : Nat) : Int) := by omega
      have hphi : (ph : Int) < ((k + 2 : Nat) : Int) := by omega
      clear hz1 hz2
      go_quiet (fail)
      have key : ∀ (lo hi : Int) (wq : World), lo = wayLo ⟨xv, pl, ph⟩ i yes z1 z2 → hi = wayHi ⟨xv, pl, ph⟩ i yes z1 z2 → wq.heap = w2.heap → wq.os = w2.os → wq.tape = w2.tape → wq.output = w2.output → Calls Tryd.prog 48 #[.pointer (some ⟨fb, 0, none⟩), .int .i64 xv, .int .i64 lo, .int .i64 hi] wq (PutQ vars fb mb pb v1 F1 np xv (wayLo ⟨xv, pl, ph⟩ i yes z1 z2) (wayHi ⟨xv, pl, ph⟩ i yes z1 z2) wq) := fun lo hi wq h1 h2 h3 _ _ _ => by
        have hw := HLAY.out.ways HNS.out (by have := HNL.out; omega) HL.out HXX.out
        rw [HZ1.out, HZ2.out] at hw
        have hlo := hw lo (.inl h1)
        have hhi := hw hi (.inr h2)
        rw [← h1, ← h2]
        exact c_put xv lo hi wq (HF2.out.keep (fun g _ => by rw [h3])) HV13.out ⟨HV0.out, HV1.out⟩ hlo.1 hhi.1 hlo.2 hhi.2 (by have := HLEN.out; omega)
      have KEY := Go.Lib.hid key
      clear key
      have HSQ := Go.Lib.hid (fun n => HS2.out.then (show Below w2.heap.size w2 (w2.drewN n) from ⟨rfl, rfl, rfl, Nat.le_refl _, fun _ _ => rfl⟩))
      by_cases hvi : xv = i
      · subst hvi
        have hb1 : (xv == xv) = true := by simp
        cases yes with
        | true =>
          go_wp2_with fail
          refine (KEY.out z2 z2 (w2.drewN nq) (by unfold wayLo; simp) (by unfold wayHi; simp) rfl rfl rfl rfl).mono ?_
          rintro e w3 ⟨p, v3, F3, rfl, hf3, hp3, hs3⟩
          have HF3 := Go.Lib.hid hf3
          have HS3 := Go.Lib.hid ((HSQ.out _).trans hs3)
          have HO3 := Go.Lib.hid (ints_keep (w := w2.drewN nq) (HF2.out.keep (fun _ _ => rfl)) (own_block HO2.out (fun _ _ _ _ => rfl)) hs3)
          have HPU := Go.Lib.hid hp3
          have HBX3 := Go.Lib.hid ((hs3.block w.heap.size (Array.getElem?_eq_some_iff.1 HBX2.out).1 (fun hg => by
            rcases hg with hg | hg | hg | hg
            · exact HNF.out (.inl hg)
            · exact HNF.out (.inr (.inl hg))
            · exact HNF.out (.inr (.inr (.inl hg)))
            · obtain ⟨cur, s⟩ := own_shape HF2.out.own hg
              rw [HBX2.out] at s
              injection s with s
              injection s with _ s3 _
              exact absurd s3 (by decide))).trans HBX2.out)
          have hfp : fits p := fits_small hp3.inn.1 (by obtain ⟨G, hG, hg1⟩ := hp3.ext; have h1 := hp3.inn.2; rw [hG, List.length_append] at h1; have h2 := HLEN.out; omega)
          have HFP := Go.Lib.hid hfp
          have HOJ := Go.Lib.hid (show w3.ownsRow (w.heap.size + 1) 3 1 (.slice (some ⟨b3, o3, none⟩) (k + 2) sc) (k + 2) (L.map (Value.int .i64)) from by have h1 := HO3.out.1; rw [HL.out] at h1; exact h1)
          have hw3 : w.heap.size + 1 ≤ w3.heap.size := (Array.getElem?_eq_some_iff.1 HBX3.out).1
          clear hf3 hp3 hs3 hfp u1 u2 y0 y1 y2
          go_wp2_with (first | (at_builtin; go_loud (refine wpList_append_own_at _ rfl _ _ 43 rfl (w.heap.size + 1) 3 i1 (.int .i64 0) 1 8 Tryd.underlying43 HI1.out HZ01.out HZ11.out HZ21.out rfl (by decide) (.slice (some ⟨b3, o3, none⟩) (k + 2) sc) (k + 2) _ rfl (HOJ.out.alloc _) ⟨w3.heap.size, 0, none⟩ 1 1 [.int .i64 p] rfl rfl (cell_one_new _ _ _) (ints_oneCell .i64 [p]) (by unfold maxLen; omega) (by omega) (by simp; omega) ?_; intro v' w4 hown' hgrow' hnil hloc); have HQ := Go.Lib.hid (lay_app HF3.out HS3.out (Nat.le_succ _) HO3.out hgrow' (by rw [HL.out]; exact hown') HFP.out); clear hown' hgrow' hnil hloc; obtain ⟨g, cap', hv'⟩ := HQ.out.2.2.2.2; rw [HL.out] at hv'; subst hv') | go_in)
          go_roundw
          case rel =>
            obtain ⟨q1, q2, q3, q4, -⟩ := HQ.out
            obtain ⟨G, hG, hg1⟩ := HPU.out.ext
            exact ⟨k + 1, some ⟨g, 0, none⟩, cap', L ++ [p], v3, F3, by omega, by go_num, rfl, q4, by rw [List.length_append, HL.out]; rfl, HLAY.out.push HNS.out HFW.out.frs (by have := HNL.out; omega) HL.out HXX.out (by rw [HZ1.out, HZ2.out]; exact HPU.out), q1, by obtain ⟨G1, hG1⟩ := HG.out; exact ⟨G1 ++ G, by rw [hG, hG1, List.append_assoc]⟩, by rw [hG, List.length_append]; have := HLEN.out; omega, q2, (q3 _ (Nat.lt_succ_self _) (Array.getElem?_eq_some_iff.1 HBX3.out).1).trans HBX3.out⟩
          case measure => simp [intOf] <;> omega
        | false =>
          go_wp2_with fail
          refine (KEY.out z1 z1 (w2.drewN nq) (by unfold wayLo; simp) (by unfold wayHi; simp) rfl rfl rfl rfl).mono ?_
          rintro e w3 ⟨p, v3, F3, rfl, hf3, hp3, hs3⟩
          have HF3 := Go.Lib.hid hf3
          have HS3 := Go.Lib.hid ((HSQ.out _).trans hs3)
          have HO3 := Go.Lib.hid (ints_keep (w := w2.drewN nq) (HF2.out.keep (fun _ _ => rfl)) (own_block HO2.out (fun _ _ _ _ => rfl)) hs3)
          have HPU := Go.Lib.hid hp3
          have HBX3 := Go.Lib.hid ((hs3.block w.heap.size (Array.getElem?_eq_some_iff.1 HBX2.out).1 (fun hg => by
            rcases hg with hg | hg | hg | hg
            · exact HNF.out (.inl hg)
            · exact HNF.out (.inr (.inl hg))
            · exact HNF.out (.inr (.inr (.inl hg)))
            · obtain ⟨cur, s⟩ := own_shape HF2.out.own hg
              rw [HBX2.out] at s
              injection s with s
              injection s with _ s3 _
              exact absurd s3 (by decide))).trans HBX2.out)
          have hfp : fits p := fits_small hp3.inn.1 (by obtain ⟨G, hG, hg1⟩ := hp3.ext; have h1 := hp3.inn.2; rw [hG, List.length_append] at h1; have h2 := HLEN.out; omega)
          have HFP := Go.Lib.hid hfp
          have HOJ := Go.Lib.hid (show w3.ownsRow (w.heap.size + 1) 3 1 (.slice (some ⟨b3, o3, none⟩) (k + 2) sc) (k + 2) (L.map (Value.int .i64)) from by have h1 := HO3.out.1; rw [HL.out] at h1; exact h1)
          have hw3 : w.heap.size + 1 ≤ w3.heap.size := (Array.getElem?_eq_some_iff.1 HBX3.out).1
          clear hf3 hp3 hs3 hfp u1 u2 y0 y1 y2
          go_wp2_with (first | (at_builtin; go_loud (refine wpList_append_own_at _ rfl _ _ 43 rfl (w.heap.size + 1) 3 i1 (.int .i64 0) 1 8 Tryd.underlying43 HI1.out HZ01.out HZ11.out HZ21.out rfl (by decide) (.slice (some ⟨b3, o3, none⟩) (k + 2) sc) (k + 2) _ rfl (HOJ.out.alloc _) ⟨w3.heap.size, 0, none⟩ 1 1 [.int .i64 p] rfl rfl (cell_one_new _ _ _) (ints_oneCell .i64 [p]) (by unfold maxLen; omega) (by omega) (by simp; omega) ?_; intro v' w4 hown' hgrow' hnil hloc); have HQ := Go.Lib.hid (lay_app HF3.out HS3.out (Nat.le_succ _) HO3.out hgrow' (by rw [HL.out]; exact hown') HFP.out); clear hown' hgrow' hnil hloc; obtain ⟨g, cap', hv'⟩ := HQ.out.2.2.2.2; rw [HL.out] at hv'; subst hv') | go_in)
          go_roundw
          case rel =>
            obtain ⟨q1, q2, q3, q4, -⟩ := HQ.out
            obtain ⟨G, hG, hg1⟩ := HPU.out.ext
            exact ⟨k + 1, some ⟨g, 0, none⟩, cap', L ++ [p], v3, F3, by omega, by go_num, rfl, q4, by rw [List.length_append, HL.out]; rfl, HLAY.out.push HNS.out HFW.out.frs (by have := HNL.out; omega) HL.out HXX.out (by rw [HZ1.out, HZ2.out]; exact HPU.out), q1, by obtain ⟨G1, hG1⟩ := HG.out; exact ⟨G1 ++ G, by rw [hG, hG1, List.append_assoc]⟩, by rw [hG, List.length_append]; have := HLEN.out; omega, q2, (q3 _ (Nat.lt_succ_self _) (Array.getElem?_eq_some_iff.1 HBX3.out).1).trans HBX3.out⟩
          case measure => simp [intOf] <;> omega
      · have hb1 : (xv == i) = false := by simp [hvi]
        have HVI := Go.Lib.hid hvi
        clear hvi
        go_wp2_with fail
        refine (KEY.out z1 z2 (w2.drewN nq) (if_neg (fun h => HVI.out h.1)).symm (if_neg (fun h => HVI.out h.1)).symm rfl rfl rfl rfl).mono ?_
        rintro e w3 ⟨p, v3, F3, rfl, hf3, hp3, hs3⟩
        have HF3 := Go.Lib.hid hf3
        have HS3 := Go.Lib.hid ((HSQ.out _).trans hs3)
        have HO3 := Go.Lib.hid (ints_keep (w := w2.drewN nq) (HF2.out.keep (fun _ _ => rfl)) (own_block HO2.out (fun _ _ _ _ => rfl)) hs3)
        have HPU := Go.Lib.hid hp3
        have HBX3 := Go.Lib.hid ((hs3.block w.heap.size (Array.getElem?_eq_some_iff.1 HBX2.out).1 (fun hg => by
          rcases hg with hg | hg | hg | hg
          · exact HNF.out (.inl hg)
          · exact HNF.out (.inr (.inl hg))
          · exact HNF.out (.inr (.inr (.inl hg)))
          · obtain ⟨cur, s⟩ := own_shape HF2.out.own hg
            rw [HBX2.out] at s
            injection s with s
            injection s with _ s3 _
            exact absurd s3 (by decide))).trans HBX2.out)
        have hfp : fits p := fits_small hp3.inn.1 (by obtain ⟨G, hG, hg1⟩ := hp3.ext; have h1 := hp3.inn.2; rw [hG, List.length_append] at h1; have h2 := HLEN.out; omega)
        have HFP := Go.Lib.hid hfp
        have HOJ := Go.Lib.hid (show w3.ownsRow (w.heap.size + 1) 3 1 (.slice (some ⟨b3, o3, none⟩) (k + 2) sc) (k + 2) (L.map (Value.int .i64)) from by have h1 := HO3.out.1; rw [HL.out] at h1; exact h1)
        have hw3 : w.heap.size + 1 ≤ w3.heap.size := (Array.getElem?_eq_some_iff.1 HBX3.out).1
        clear hf3 hp3 hs3 hfp u1 u2 y0 y1 y2
        go_wp2_with (first | (at_builtin; go_loud (refine wpList_append_own_at _ rfl _ _ 43 rfl (w.heap.size + 1) 3 i1 (.int .i64 0) 1 8 Tryd.underlying43 HI1.out HZ01.out HZ11.out HZ21.out rfl (by decide) (.slice (some ⟨b3, o3, none⟩) (k + 2) sc) (k + 2) _ rfl (HOJ.out.alloc _) ⟨w3.heap.size, 0, none⟩ 1 1 [.int .i64 p] rfl rfl (cell_one_new _ _ _) (ints_oneCell .i64 [p]) (by unfold maxLen; omega) (by omega) (by simp; omega) ?_; intro v' w4 hown' hgrow' hnil hloc); have HQ := Go.Lib.hid (lay_app HF3.out HS3.out (Nat.le_succ _) HO3.out hgrow' (by rw [HL.out]; exact hown') HFP.out); clear hown' hgrow' hnil hloc; obtain ⟨g, cap', hv'⟩ := HQ.out.2.2.2.2; rw [HL.out] at hv'; subst hv') | go_in)
        go_roundw
        case rel =>
          obtain ⟨q1, q2, q3, q4, -⟩ := HQ.out
          obtain ⟨G, hG, hg1⟩ := HPU.out.ext
          exact ⟨k + 1, some ⟨g, 0, none⟩, cap', L ++ [p], v3, F3, by omega, by go_num, rfl, q4, by rw [List.length_append, HL.out]; rfl, HLAY.out.push HNS.out HFW.out.frs (by have := HNL.out; omega) HL.out HXX.out (by rw [HZ1.out, HZ2.out]; exact HPU.out), q1, by obtain ⟨G1, hG1⟩ := HG.out; exact ⟨G1 ++ G, by rw [hG, hG1, List.append_assoc]⟩, by rw [hG, List.length_append]; have := HLEN.out; omega, q2, (q3 _ (Nat.lt_succ_self _) (Array.getElem?_eq_some_iff.1 HBX3.out).1).trans HBX3.out⟩
        case measure => simp [intOf] <;> omega
    · have hki : ¬ (k : Int) < len := by omega
      obtain rfl : k = len := by omega
      obtain ⟨z1, b3, o3, hz1, -, rfl, hbB3, u1⟩ := int_at (own_ints HOW.out HL.out.symm) (show rt < k + 2 by omega)
      have HZ1 := Go.Lib.hid hz1
      have hrt : (rt : Int) < ((k + 2 : Nat) : Int) := by omega
      have x2 := cell_of_block (i := 2) HBX.out (v := .int .i64 (rt : Int)) rfl
      clear hz1
      go_wp2_with fail
      go_ret
      have hat := HLAY.out.at_ rt (by have := HL.out; omega)
      rw [HZ1.out] at hat
      exact ⟨_, _, _, rfl, HFW.out, HG.out, hat.1, hat.2.1, HS.out, by have := HLEN.out; omega⟩

set_option maxHeartbeats 4000000 in
theorem c_lay {vars : Int} {fb mb pb B : Nat} {v : Value} {F : List BN} {np : Nat} {a : Option Addr} {len cap : Nat} {ns : List BN} (root : Int) (w : World) (h : ForestAt vars fb mb pb v F np w) (hB : ∀ g, FB fb mb pb v g → B ≤ g) (hBw : B ≤ w.heap.size) (hn : BnsAt B w a len cap ns) (hok : OkB vars ns root) (hroom : F.length ≤ 900000) :
    Calls Tryd.prog 41 #[.pointer (some ⟨fb, 0, none⟩), .agg #[.int .i64 vars, .slice a len cap, .int .i64 root]] w (LayQ vars fb mb pb v F np ns root (-1) false w) := by
  have HF := Go.Lib.hid h
  have HN := Go.Lib.hid hn
  have HO := Go.Lib.hid hok
  have HFB := Go.Lib.hid hB
  clear h hn hok hB
  go_enter Tryd.func41, Tryd.ntmps41
  go_upto_region 1 with fail
  refine code_gen (R := fun wb => BBox vars a len cap root w wb) (BBox.new _ _ _ _ _ _) ?_
  intro w0 hbox
  obtain ⟨x0, x1, x2⟩ := hbox.cells
  have HB0 := Go.Lib.hid hbox.bel
  clear hbox
  go_wp2_with fail
  refine (c_layFixed root (-1) false w0 (HF.out.below HB0.out) HFB.out (Nat.le_trans hBw HB0.out.size) (HN.out.below (HB0.out.mono hBw)) HO.out hroom).mono ?_
  rintro e w1 ⟨p, v1, F1, rfl, hf, hG, hp, hev, hs, hl⟩
  have HQ := Go.Lib.hid (And.intro hf (And.intro hG (And.intro hp (And.intro hev (And.intro ((FStep.of_below HB0.out).trans hs) hl)))))
  clear hf hG hp hev hs hl x0 x1 x2
  go_wp2_with fail
  go_ret
  obtain ⟨h1, h2, h3, h4, h5, h6⟩ := HQ.out
  exact ⟨_, _, _, rfl, h1, h2, h3, h4, h5, h6⟩
end Go.Proofs.YthdofdglbdfkkaaDoor
