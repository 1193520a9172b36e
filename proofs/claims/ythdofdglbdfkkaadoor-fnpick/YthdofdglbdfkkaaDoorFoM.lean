/-
  The model's diagram of a table.
-/
import Derived.Test.YthdofdglbdfkkaaDoorRows
import Derived.Test.YthdofdglbdfkkaaDoorPaA
import Derived.Test.YthdofdglbdfkkaaDoorG0
import Derived.Test.YthdofdglbdfkkaaDoorFoP
import Derived.Test.YthdofdglbdfkkaaDoorFoY
import Derived.WalkKit
import Derived.ProofKit
import Derived.OpenShut
import Derived.WalkSpells
import Derived.WalkLawsBesides
import Derived.Outline
import Derived.BigQuiet
import Derived.Handy
import Derived.LoopTactic
import Derived.Deep.Light
import Derived.Deep.RegionWith
import Derived.Deep.RegionHeld3
import Derived.Deep.DeepCutAuto
import Derived.Lib.Hide
import Derived.Maps.OwnRows
import Derived.Deep.Onto
import Derived.OneCell
import Derived.StillTailTactics
import Derived.Deep.AppendLies
import Derived.Deep.RegionLaw
namespace Go.Proofs.YthdofdglbdfkkaaDoor
open Go.ChangeShapes Go.WideShapes Go.ChangeAt Go.RowKit Go.Maps Go.ChangeMaps
set_option linter.unusedVariables false
set_option maxRecDepth 100000

def boolCells (b : Bool) : List Value := [.bool b]
abbrev BoolsAt := RowsAt boolCells (fun _ => True) 1
/-- One bool of a slice, as a walk comes to it. -/
theorem bool_at {B : Nat} {w : World} {a : Option Addr} {len cap k : Nat} {ps : List Bool} (h : BoolsAt B w a len cap ps) (hk : k < len) :
    ∃ (b off : Nat), a = some ⟨b, off, none⟩ ∧ b < B ∧ w.cell? ⟨b, off + k, none⟩ = some (.bool (ps.getD k false)) := by
  obtain ⟨h1, h2, h3, h4, h5, h6⟩ := h
  have hk' : k < ps.length := by omega
  have hg : ps.getD k false = ps[k] := by simp [List.getD, hk']
  rcases h6 with h6 | ⟨b, off, e, hlt, hc⟩
  · omega
  · refine ⟨b, off, e, hlt, ?_⟩
    have := hc k hk' 0 (by decide)
    simp only [Nat.mul_one, Nat.add_zero] at this
    rw [this, hg]
    rfl
/-- What a table says of a number. -/
def tabF (TB : List Bool) (c : Int) : Bool := TB.getD c.toNat false
/-- A maker in memory. -/
structure MakeAt (vars : Int) (B kb : Nat) (ta : Option Addr) (tl tc : Nat) (TB : List Bool) (v : Value) (ns : List BN) (w : World) : Prop where
  blk : w.heap[kb]? = some (.cells #[.int .i64 vars, .slice ta tl tc, v] 92 (0, 0))
  tab : BoolsAt B w ta tl tc TB
  own : OwnN w B v ns
  frs : Frs vars ns
  lk : B ≤ kb
theorem MakeAt.lt {vars : Int} {B kb : Nat} {ta : Option Addr} {tl tc : Nat} {TB : List Bool} {v : Value} {ns : List BN} {w : World} (h : MakeAt vars B kb ta tl tc TB v ns w) {g : Nat} (hg : FB kb kb kb v g) : B ≤ g ∧ g < w.heap.size := by
  rcases hg with rfl | rfl | rfl | hg
  · exact ⟨h.lk, (Array.getElem?_eq_some_iff.1 h.blk).1⟩
  · exact ⟨h.lk, (Array.getElem?_eq_some_iff.1 h.blk).1⟩
  · exact ⟨h.lk, (Array.getElem?_eq_some_iff.1 h.blk).1⟩
  · exact h.own.1.lt g hg
theorem MakeAt.ne {vars : Int} {B kb : Nat} {ta : Option Addr} {tl tc : Nat} {TB : List Bool} {v : Value} {ns : List BN} {w : World} (h : MakeAt vars B kb ta tl tc TB v ns w) : v.ownBlock ≠ some kb := fun e => by
  obtain ⟨cur, s3⟩ := own_shape h.own e
  have s0 := h.blk
  rw [s0] at s3; cases s3
theorem MakeAt.keep {vars : Int} {B kb : Nat} {ta : Option Addr} {tl tc : Nat} {TB : List Bool} {v : Value} {ns : List BN} {w w' : World} (h : MakeAt vars B kb ta tl tc TB v ns w) (hk : ∀ g, FB kb kb kb v g → w'.heap[g]? = w.heap[g]?) (hb : Below B w w') : MakeAt vars B kb ta tl tc TB v ns w' :=
  ⟨(hk _ (.inl rfl)).trans h.blk, h.tab.below hb, h.own.block (fun g _ _ hg => hk g (.inr (.inr (.inr hg)))), h.frs, h.lk⟩
theorem MakeAt.below {vars : Int} {B kb : Nat} {ta : Option Addr} {tl tc : Nat} {TB : List Bool} {v : Value} {ns : List BN} {w w' : World} (h : MakeAt vars B kb ta tl tc TB v ns w) (hb : Below w.heap.size w w') : MakeAt vars B kb ta tl tc TB v ns w' :=
  h.keep (fun g hg => hb.block g (h.lt hg).2) (hb.mono (Nat.le_trans h.lk (Nat.le_of_lt (h.lt (.inl rfl)).2)))
theorem MakeAt.step {vars : Int} {B kb : Nat} {ta : Option Addr} {tl tc : Nat} {TB : List Bool} {v v' : Value} {ns : List BN} {w w' : World} (h : MakeAt vars B kb ta tl tc TB v ns w) (hs : FStep kb kb kb v w v' w') : Below B w w' :=
  hs.below (Nat.le_trans h.lk (Nat.le_of_lt (h.lt (.inl rfl)).2)) (fun g hg => (h.lt hg).1)
def MakeQ (vars : Int) (B kb : Nat) (ta : Option Addr) (tl tc : Nat) (TB : List Bool) (v : Value) (ns : List BN) (n : Nat) (x fx : Int) (w : World) (e : Ending) (w' : World) : Prop :=
  ∃ p v' ns', e = .returned (.int .i64 p) ∧ MakeAt vars B kb ta tl tc TB v' ns' w' ∧ Adds (canon (tabF TB) n x fx) ns ns' p ∧ FStep kb kb kb v w v' w' ∧ ns'.length + 1 ≤ ns.length + 2 ^ n
theorem make_app {vars : Int} {B kb : Nat} {ta : Option Addr} {tl tc : Nat} {TB : List Bool} {ns : List BN} {a : Option Addr} {cap : Nat} {n : BN} {w w4 wd : World} {o : Obj} {g cap' : Nat} (h : MakeAt vars B kb ta tl tc TB (.slice a ns.length cap) ns w) (hok : n.ok) (hF : Frs vars (ns ++ [n])) (hd : wd.heap = w.heap) (hd1 : wd.os = w.os) (hd2 : wd.tape = w.tape) (hd3 : wd.output = w.output)
    (hown : w4.ownsRow B 67 3 (.slice (some ⟨g, 0, none⟩) (ns.length + 1) cap') (ns.length + 1) (ns.flatMap BN.cells ++ [.int .i64 n.v, .int .i64 n.lo, .int .i64 n.hi])) (hg : (wd.alloc o).grownBy w4 (Value.slice a ns.length cap).ownBlock)
    (hat : (Value.slice a ns.length cap).ownBlock = some g ∨ g = (wd.alloc o).heap.size) :
    MakeAt vars B kb ta tl tc TB (.slice (some ⟨g, 0, none⟩) (ns.length + 1) cap') (ns ++ [n]) (w4.setCell ⟨kb, 2, none⟩ (.slice (some ⟨g, 0, none⟩) (ns.length + 1) cap')) ∧
      FStep kb kb kb (.slice a ns.length cap) w (.slice (some ⟨g, 0, none⟩) (ns.length + 1) cap') (w4.setCell ⟨kb, 2, none⟩ (.slice (some ⟨g, 0, none⟩) (ns.length + 1) cap')) := by
  have hsz : (wd.alloc o).heap.size = w.heap.size + 1 := by show (wd.heap.push o).size = _; rw [hd]; simp
  have hal : ∀ k, k < w.heap.size → (wd.alloc o).heap[k]? = w.heap[k]? := fun k hk => by
    have := Below.heap_alloc wd o k (by rw [hd]; exact hk)
    rw [this, hd]
  have hk4 : ∀ k, k < w.heap.size → (Value.slice a ns.length cap).ownBlock ≠ some k → w4.heap[k]? = w.heap[k]? := fun k hk hn => (hg.block k (by omega) (fun e => hn e.symm)).trans (hal k hk)
  have n3 := h.ne
  have lf := (h.lt (.inl rfl)).2
  have gne : ∀ k, k < w.heap.size → (Value.slice a ns.length cap).ownBlock ≠ some k → g ≠ k := fun k hk hn e => by
    rcases hat with h1 | h1
    · exact hn (by rw [h1, e])
    · omega
  have hset : ∀ k, k ≠ kb → (w4.setCell ⟨kb, 2, none⟩ (.slice (some ⟨g, 0, none⟩) (ns.length + 1) cap')).heap[k]? = w4.heap[k]? := fun k hk => heap_setCell_other _ _ _ _ hk
  have hstep : FStep kb kb kb (.slice a ns.length cap) w (.slice (some ⟨g, 0, none⟩) (ns.length + 1) cap') (w4.setCell ⟨kb, 2, none⟩ (.slice (some ⟨g, 0, none⟩) (ns.length + 1) cap')) := by
    refine ⟨hg.os.trans hd1, hg.tape.trans hd2, hg.output.trans hd3, ?_, ?_, ?_⟩
    · have := hg.size
      show _ ≤ (w4.setCell _ _).heap.size
      simp [World.setCell]
      omega
    · intro k hk hn
      exact (hset k (fun e => hn (.inl e))).trans (hk4 k hk (fun e => hn (.inr (.inr (.inr e)))))
    · intro y hy
      simp only [Value.ownBlock, Option.some.injEq] at hy
      rcases hat with h1 | h1
      · exact .inl (by rw [h1, hy])
      · exact .inr (by omega)
  refine ⟨⟨heap_setCell_same _ _ 2 _ _ _ ((hk4 kb lf n3).trans h.blk), h.tab.below (h.step hstep), ?_, hF, h.lk⟩, hstep⟩
  have h1 : OwnN w4 B (.slice (some ⟨g, 0, none⟩) (ns.length + 1) cap') (ns ++ [n]) := h.own.app (ms := [n]) (fun y hy => by simp at hy; rw [hy]; exact hok) hown
  refine h1.block (fun y _ _ hy => hset y (fun e => ?_))
  simp only [Value.ownBlock, Option.some.injEq] at hy
  exact gne kb lf n3 (hy.trans e)
theorem p2_13 {v : Int} (h0 : 0 ≤ v) (h : v ≤ 13) : (2 : Int) ^ v.toNat ≤ 8192 := by
  have h1 : v.toNat ≤ 13 := by omega
  have h2 : (2 : Nat) ^ v.toNat ≤ 2 ^ 13 := Nat.pow_le_pow_right (by decide) h1
  have h3 : ((2 : Nat) ^ v.toNat : Nat) ≤ 8192 := h2
  have e : (2 : Int) ^ v.toNat = ((2 ^ v.toNat : Nat) : Int) := by simp
  rw [e]; omega

theorem sum_fits {f m : Int} (h0 : 0 ≤ f) (h1 : f < m) (h2 : m ≤ 8192) : wrap64 (f + m) = f + m := IntWalk.wrap64_in _ (by omega)
theorem one_fits {m : Int} (h1 : 0 < m) (h2 : m ≤ 8192) : wrap64 m = m := IntWalk.wrap64_in _ (by omega)
theorem canon_same {T : Int → Bool} {n : Nat} {v x : Int} (h : canon T n (v + 1) x = canon T n (v + 1) (x + 2 ^ v.toNat)) : canon T (n + 1) v x = canon T n (v + 1) x := by rw [canon]; exact if_pos h
theorem canon_diff {T : Int → Bool} {n : Nat} {v x : Int} (h : canon T n (v + 1) x ≠ canon T n (v + 1) (x + 2 ^ v.toNat)) : canon T (n + 1) v x = .node v (canon T n (v + 1) x) (canon T n (v + 1) (x + 2 ^ v.toNat)) := by rw [canon]; exact if_neg h

set_option maxHeartbeats 16000000 in
theorem c_make {vars : Int} {B kb : Nat} {ta : Option Addr} {tl tc : Nat} {TB : List Bool} (hv0 : 0 ≤ vars) (hv13 : vars ≤ 13) (htl : (tl : Int) = 2 ^ vars.toNat) : ∀ (n : Nat) (x fx : Int) (v : Value) (ns : List BN) (w : World), MakeAt vars B kb ta tl tc TB v ns w → 0 ≤ x → x + n = vars → 0 ≤ fx → fx < 2 ^ x.toNat → ns.length + 2 ^ n ≤ 100000 →
    Calls Tryd.prog 83 #[.pointer (some ⟨kb, 0, none⟩), .int .i64 x, .int .i64 fx] w (MakeQ vars B kb ta tl tc TB v ns n x fx w) := by
  intro n
  induction n with
  | zero =>
    intro x fx v ns w h hx0 hxn hf0 hf1 hs
    have HM := Go.Lib.hid h
    obtain rfl : x = vars := by omega
    have hfl : fx < tl := by rw [htl]; exact hf1
    obtain ⟨q, rfl⟩ : ∃ q : Nat, fx = q := ⟨fx.toNat, by omega⟩
    obtain ⟨b, off, rfl, hbB, c0⟩ := bool_at h.tab (show q < tl by omega)
    obtain ⟨bt, hbt⟩ : ∃ b, TB.getD q false = b := ⟨_, rfl⟩
    rw [hbt] at c0
    have HBT := Go.Lib.hid hbt
    clear hbt
    have hvv : (x == x) = true := by simp
    have k0 := cell_of_block (i := 0) h.blk (v := .int .i64 x) rfl
    have k1 := cell_of_block (i := 1) h.blk (v := .slice (some ⟨b, off, none⟩) tl tc) rfl
    have HS := Go.Lib.hid (FStep.refl kb kb kb v w)
    have hq : (q : Int) < tl := hfl
    have HY := Go.Lib.hid (c_l1Yes bt w)
    clear h
    go_enter Tryd.func83, Tryd.ntmps83
    go_wp2_with fail
    refine HY.out.mono ?_
    rintro e w1 ⟨rfl, hw⟩
    cases hw
    go_wp2_with fail
    go_ret
    refine ⟨_, v, ns, rfl, HM.out, ?_, HS.out, by simp⟩
    have e : (bt.toNat : Int) = if tabF TB q then 1 else 0 := by
      unfold tabF
      rw [Int.toNat_natCast, HBT.out]
      cases bt <;> rfl
    rw [e]
    exact .leaf _ ns
  | succ n ih =>
    intro x fx v ns w h hx0 hxn hf0 hf1 hs
    have HM := Go.Lib.hid h
    have HIH := Go.Lib.hid ih
    have hp2 : 2 ^ (n + 1) = 2 * 2 ^ n := by rw [Nat.pow_succ]; omega
    have HPW := Go.Lib.hid hp2
    have HS := Go.Lib.hid hs
    have HXN := Go.Lib.hid hxn
    have HF1 := Go.Lib.hid hf1
    have hstep := pow_step x hx0
    have HST := Go.Lib.hid hstep
    have hx13 : x < 13 := by omega
    have hxv : ¬ x = vars := by omega
    have hxb : (x == vars) = false := by simp [hxv]
    have hp13 := p2_13 hx0 (by omega)
    have hpp := pow_pos' x.toNat
    have HX0 := Go.Lib.hid hx0
    have HC0 := Go.Lib.hid (show (canon (tabF TB) n (x + 1) fx).Red vars (x + 1) from canon_red _ n _ _ (by omega) (by omega))
    have HC1 := Go.Lib.hid (show (canon (tabF TB) n (x + 1) (fx + 2 ^ x.toNat)).Red vars (x + 1) from canon_red _ n _ _ (by omega) (by omega))
    have HNF := Go.Lib.hid (show ¬ FB kb kb kb v w.heap.size from fun hg => Nat.lt_irrefl _ (h.lt hg).2)
    obtain ⟨m, hm⟩ : ∃ m : Int, 2 ^ x.toNat = m := ⟨_, rfl⟩
    have HMM := Go.Lib.hid hm
    have hw1 : wrap64 (2 ^ x.toNat) = m := by rw [hm] at hpp hp13 ⊢; exact one_fits hpp hp13
    rw [hm] at hpp hp13 hf1
    have hw2 : wrap64 (fx + m) = fx + m := sum_fits hf0 hf1 hp13
    obtain ⟨i1, hi1, hz01, hz11, hz21⟩ := info_parts bnInfo
    have HI1 := Go.Lib.hid hi1
    have HZ01 := Go.Lib.hid hz01
    have HZ11 := Go.Lib.hid hz11
    have HZ21 := Go.Lib.hid hz21
    have k0 := cell_of_block (i := 0) h.blk (v := .int .i64 vars) rfl
    clear h ih hp2 hs hxn hstep hi1 hz01 hz11 hz21 hm
    go_enter Tryd.func83, Tryd.ntmps83
    go_wp2_with fail
    refine (HIH.out (x + 1) fx v ns w HM.out (by omega) (by have := HXN.out; omega) hf0 (by rw [HST.out, HMM.out]; omega) (by have h1 := HPW.out; have h2 := HS.out; omega)).mono ?_
    rintro e w1 ⟨pl, v1, ns1, rfl, hm1, ha1, hs1, hl1⟩
    have HM1 := Go.Lib.hid hm1
    have HA1 := Go.Lib.hid ha1
    have HS1 := Go.Lib.hid hs1
    have HL1 := Go.Lib.hid hl1
    clear hm1 ha1 hs1 hl1 k0
    go_wp2_with fail
    refine (HIH.out (x + 1) (fx + m) v1 ns1 w1 HM1.out (by omega) (by have := HXN.out; omega) (by omega) (by rw [HST.out, HMM.out]; omega) (by have h1 := HPW.out; have h2 := HS.out; have h3 := HL1.out; omega)).mono ?_
    rintro e w2 ⟨ph, v2, ns2, rfl, hm2, ha2, hs2, hl2⟩
    have HM2 := Go.Lib.hid hm2
    have HA2 := Go.Lib.hid (show Adds (canon (tabF TB) n (x + 1) (fx + 2 ^ x.toNat)) ns1 ns2 ph by rw [HMM.out]; exact ha2)
    have HS2 := Go.Lib.hid (HS1.out.trans hs2)
    have HL2 := Go.Lib.hid (show ns2.length + 2 ≤ ns.length + 2 ^ (n + 1) by have h1 := HPW.out; have h3 := HL1.out; omega)
    clear hm2 ha2 hs2 hl2 hw1 hw2
    by_cases heq : pl = ph
    · subst heq
      have heb : (pl == pl) = true := by simp
      go_wp2_with fail
      go_ret
      have hb := Adds.both (by have := HX0.out; omega) HM.out.frs HC0.out HC1.out HA1.out HA2.out rfl
      exact ⟨pl, v2, ns2, rfl, HM2.out, by rw [canon_same hb.1]; exact hb.2, HS2.out, by have := HL2.out; omega⟩
    have heb : (pl == ph) = false := by simp [heq]
    have HNE := Go.Lib.hid (show canon (tabF TB) n (x + 1) fx ≠ canon (tabF TB) n (x + 1) (fx + 2 ^ x.toNat) from fun e => by
      have h1 := HA1.out.tree
      obtain ⟨mm, hmm⟩ := HA2.out.ext
      have h2 := h1.app mm
      rw [← hmm, e] at h2
      exact heq (TreeOf.place HM2.out.frs HA2.out.tree h2))
    clear heq
    go_upto_region 8 with fail
    refine code_gen (R := fun wb => wb.heap[w2.heap.size]? = some (.cells #[.int .i64 x, .int .i64 pl, .int .i64 ph] 67 (0, 0)) ∧ MakeAt vars B kb ta tl tc TB v2 ns2 wb ∧ FStep kb kb kb v w v2 wb) ⟨by first | exact (MapKept.heap_alloc _ _).1 | exact heap_alloc_new _ _, HM2.out.below (by go_grown), HS2.out.then (by go_grown)⟩ ?_
    rintro w3 ⟨k3, hm3, hs3⟩
    obtain ⟨gn, hgn⟩ : ∃ g, w2.heap.size = g := ⟨_, rfl⟩
    have HK3 := Go.Lib.hid k3
    have HM3 := Go.Lib.hid hm3
    have HS3 := Go.Lib.hid hs3
    clear k3 hm3 hs3 HS2 HM2
    rw [hgn] at HK3 ⊢
    clear hgn
    obtain ⟨va, vc, rfl, -⟩ := OwnN.form HM3.out.own
    go_wp2_with fail
    go_loopw [10] (fun q wr => ∃ k : Nat, k ≤ ns2.length ∧ q = .int .i64 k ∧ (∀ j : Nat, j < k → ns2.getD j default ≠ ⟨x, pl, ph⟩) ∧ wr.heap[gn]? = some (.cells #[.int .i64 x, .int .i64 pl, .int .i64 ph] 67 (0, 0)) ∧ MakeAt vars B kb ta tl tc TB (.slice va ns2.length vc) ns2 wr ∧ FStep kb kb kb v w (.slice va ns2.length vc) wr) (fun q _ => ns2.length - (intOf q).toNat)
    case atStart => exact ⟨0, by omega, rfl, fun j h => by omega, HK3.out, HM3.out, HS3.out⟩
    case round =>
      obtain ⟨k, hk, rfl, hno, hkb, hmk, hsk⟩ := hrel
      have HNO := Go.Lib.hid hno
      have HKB := Go.Lib.hid hkb
      have HMK := Go.Lib.hid hmk
      have HSK := Go.Lib.hid hsk
      have m2 := cell_of_block (i := 2) hmk.blk (v := .slice va ns2.length vc) rfl
      have hl6 : (ns2.length : Int) ≤ 100000 := by have h1 := HL2.out; have h2 := HS.out; omega
      clear hno hkb hmk hsk HK3 HM3 HS3
      by_cases hkl : k < ns2.length
      · have hki : (k : Int) < ns2.length := by omega
        obtain ⟨y, b, off, hy, -, rfl, hbB, c0, c1, c2⟩ := bn_at (OwnN.bns HMK.out.own rfl) hkl
        have HY := Go.Lib.hid hy
        have z0 := cell_of_block (i := 0) HKB.out (v := .int .i64 x) rfl
        have z1 := cell_of_block (i := 1) HKB.out (v := .int .i64 pl) rfl
        have z2 := cell_of_block (i := 2) HKB.out (v := .int .i64 ph) rfl
        clear hy
        have HEQ := Go.Lib.hid (show ns2.getD k default = ⟨x, pl, ph⟩ ↔ (y.v = x ∧ y.lo = pl ∧ y.hi = ph) by
          rw [← HY.out]
          obtain ⟨b1, b2, b3⟩ := y
          simp only [BN.mk.injEq])
        cases e1 : (y.v == x)
        rotate_left
        cases e2 : (y.lo == pl)
        rotate_left
        cases e3 : (y.hi == ph)
        rotate_left
        · have HT := Go.Lib.hid (HEQ.out.2 ⟨by simpa using e1, by simpa using e2, by simpa using e3⟩)
          go_upto_region 11 with fail
          go_quiet (fail)
          go_wp2_with fail
          go_ret
          refine ⟨_, _, ns2, rfl, HMK.out.keep (fun _ _ => rfl) ⟨rfl, rfl, rfl, Nat.le_refl _, fun _ _ => rfl⟩, ?_, HSK.out.then ⟨rfl, rfl, rfl, Nat.le_refl _, fun _ _ => rfl⟩, by have := HL2.out; omega⟩
          rw [canon_diff HNE.out]
          exact Adds.found HX0.out HM.out.frs HC0.out HC1.out HA1.out HA2.out hkl HT.out
        all_goals
          have HT := Go.Lib.hid (show ns2.getD k default ≠ ⟨x, pl, ph⟩ from fun h => by have := HEQ.out.1 h; simp_all)
          go_upto_region 11 with fail
          go_quiet (fail)
          go_wp2_with fail
          go_roundw
          case rel => exact ⟨k + 1, by omega, by go_num, fun j hj => by
            rcases Nat.lt_or_ge j k with h | h
            · exact HNO.out j h
            · obtain rfl : j = k := by omega
              exact HT.out, HKB.out, HMK.out.keep (fun _ _ => rfl) ⟨rfl, rfl, rfl, Nat.le_refl _, fun _ _ => rfl⟩, HSK.out.then ⟨rfl, rfl, rfl, Nat.le_refl _, fun _ _ => rfl⟩⟩
          case measure => simp [intOf]; omega
      · have hki : ¬ (k : Int) < ns2.length := by omega
        obtain rfl : k = ns2.length := by omega
        have hall : ∀ j : Nat, j < ns2.length → ns2.getD j default ≠ ⟨x, pl, ph⟩ := HNO.out
        have HADD := Go.Lib.hid (show Adds (canon (tabF TB) (n + 1) x fx) ns (ns2 ++ [⟨x, pl, ph⟩]) ((ns2.length : Int) + 2) by
          rw [canon_diff HNE.out]
          exact Adds.fresh HX0.out HM.out.frs HC0.out HC1.out HA1.out HA2.out hall)
        have HFR := Go.Lib.hid (HADD.out.all HX0.out (canon_red (tabF TB) (vars := vars) (n + 1) x fx HX0.out (by have := HXN.out; omega)) HM.out.frs).1
        have hfx : fits x := fits_small hx0 (by omega)
        have hfl : fits pl := fits_small HA1.out.tree.rng.1 (by have h1 := HA1.out.tree.rng.2; have h2 := HA2.out.le; omega)
        have hfh : fits ph := fits_small HA2.out.tree.rng.1 (by have h1 := HA2.out.tree.rng.2; omega)
        have HNOK := Go.Lib.hid (show BN.ok ⟨x, pl, ph⟩ from ⟨hfx, hfl, hfh⟩)
        have z0 := cell_of_block (i := 0) HKB.out (v := .int .i64 x) rfl
        have z1 := cell_of_block (i := 1) HKB.out (v := .int .i64 pl) rfl
        have z2 := cell_of_block (i := 2) HKB.out (v := .int .i64 ph) rfl
        have r2 := free_of_block (i := 2) HMK.out.blk
        have HQL := Go.Lib.hid (HMK.out.lt (.inl rfl)).2
        have HQN := Go.Lib.hid HMK.out.ne
        have HOW := Go.Lib.hid HMK.out.own.1
        have HBW := Go.Lib.hid (show B ≤ wr.heap.size from Nat.le_trans HMK.out.lk (Nat.le_of_lt (HMK.out.lt (.inl rfl)).2))
        have m2a : ∀ o, (wr.alloc o).cell? ⟨kb, 2, none⟩ = some (.slice va ns2.length vc) := fun o => keepc (show Below wr.heap.size wr (wr.alloc o) by go_grown) HQL.out m2
        clear hall hfx hfl hfh
        go_upto_region 13 with fail
        go_region_law (first | (refine step_append_lies _ rfl (.tmp 71) (.tmp 73) 23 rfl B 67 i1 (.agg #[.int .i64 0, .int .i64 0, .int .i64 0]) 3 24 Tryd.underlying23 HI1.out HZ01.out HZ11.out HZ21.out rfl (by decide) (.slice va ns2.length vc) ns2.length _ (by simp [Act.eval]) (by first | exact HOW.out.drew.alloc _ | exact HOW.out.alloc _ | exact (HOW.out.alloc _).drew) ⟨wr.heap.size, 0, none⟩ 1 1 [.int .i64 x, .int .i64 pl, .int .i64 ph] (by simp [Act.eval]) rfl (by first | exact bn_new ⟨x, pl, ph⟩ wr.drew | exact bn_new ⟨x, pl, ph⟩ wr) (bn_one ⟨x, pl, ph⟩) (by decide) (by unfold maxLen; omega) (by omega) (by first | exact Nat.le_trans HBW.out (Nat.le_of_lt (alloc_ltS _ _)) | (simp; have := HBW.out; omega)) _ rfl ?_; intro g cap' w5 hown' hgrow' hat hlt5; have v5 := (World.cell?_of_block (w := wr) (w' := w5) (a := ⟨kb, 2, none⟩) (forest_far hgrow' HQL.out HQN.out)).trans m2; have r5 := (World.frozen?_of_block (w := wr) (w' := w5) (a := ⟨kb, 2, none⟩) (forest_far hgrow' HQL.out HQN.out)).trans r2))
        all_goals
          have HQ := Go.Lib.hid (make_app (n := ⟨x, pl, ph⟩) (wd := wr.drew) HMK.out HNOK.out HFR.out rfl rfl rfl rfl hown' hgrow' hat)
          have q2 := cell_of_block (i := 2) HQ.out.1.blk (v := .slice (some ⟨g, 0, none⟩) (ns2.length + 1) cap') rfl
          clear hown' hgrow' hat hlt5 v5 r5 m2 r2 z0 z1 z2 m2a
          go_wp2_with fail
          go_ret
          exact ⟨_, _, _, by first | rfl | exact ret_int (by omega), HQ.out.1, HADD.out, HSK.out.trans HQ.out.2, by rw [List.length_append]; have := HL2.out; show ns2.length + 1 + 1 ≤ _; omega⟩
end Go.Proofs.YthdofdglbdfkkaaDoor
