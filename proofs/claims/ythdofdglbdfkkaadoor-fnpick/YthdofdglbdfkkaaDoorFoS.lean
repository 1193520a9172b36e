/-
  Out of a forest: the nodes of one diagram are picked.
-/
import Derived.Test.YthdofdglbdfkkaaDoorRows
import Derived.Test.YthdofdglbdfkkaaDoorG0
import Derived.Test.YthdofdglbdfkkaaDoorFoW
import Derived.Test.YthdofdglbdfkkaaDoorFoP
import Derived.WalkKit
import Derived.ProofKit
import Derived.OpenShut
import Derived.WalkSpells
import Derived.WalkLawsBesides
import Derived.Outline
import Derived.BigQuiet
import Derived.Handy
import Derived.LoopTactic
import Derived.Deep.Light
import Derived.Deep.RegionWith
import Derived.Deep.RegionHeld3
import Derived.Deep.DeepCutAuto
import Derived.Lib.Hide
import Derived.Maps.OwnRows
import Derived.Deep.Onto
import Derived.OneCell
import Derived.StillTailTactics
import Derived.Deep.AppendLies
import Derived.Deep.RegionLaw
namespace Go.Proofs.YthdofdglbdfkkaaDoor
open Go.ChangeShapes Go.WideShapes Go.ChangeAt Go.RowKit Go.Maps Go.ChangeMaps
set_option linter.unusedVariables false
set_option maxRecDepth 100000

/-- What a picker's table tells. -/
def PkR (F ms : List BN) (q : Lit) (z : Int) : Prop := ∃ (p : Int) (t : DT), q = .int .i64 p ∧ TreeOf F p t ∧ TreeOf ms z t
/-- A picker in memory. -/
structure PickAt (vars : Int) (B qb mb : Nat) (fa : Option Addr) (fc : Nat) (F : List BN) (v : Value) (ms : List BN) (w : World) : Prop where
  blk : w.heap[qb]? = some (.cells #[.slice fa F.length fc, v, .map (some mb)] 111 (0, 0))
  src : BnsAt B w fa F.length fc F
  own : OwnN w B v ms
  plc : IntMap 3 mb (ms.length + 2) (PkR F ms) w
  frs : Frs vars ms
  frF : Frs vars F
  lq : B ≤ qb
  lm : B ≤ mb
  b0 : 0 < B
  glob : ∃ u x, w.cell? ⟨0, 0, none⟩ = some (.iface u x)
theorem PickAt.lt {vars : Int} {B qb mb : Nat} {fa : Option Addr} {fc : Nat} {F : List BN} {v : Value} {ms : List BN} {w : World} (h : PickAt vars B qb mb fa fc F v ms w) {g : Nat} (hg : FB qb mb mb v g) : B ≤ g ∧ g < w.heap.size := by
  rcases hg with rfl | rfl | rfl | hg
  · exact ⟨h.lq, (Array.getElem?_eq_some_iff.1 h.blk).1⟩
  · exact ⟨h.lm, h.plc.lt⟩
  · exact ⟨h.lm, h.plc.lt⟩
  · exact h.own.1.lt g hg
theorem PickAt.ne {vars : Int} {B qb mb : Nat} {fa : Option Addr} {fc : Nat} {F : List BN} {v : Value} {ms : List BN} {w : World} (h : PickAt vars B qb mb fa fc F v ms w) : qb ≠ mb ∧ v.ownBlock ≠ some qb ∧ v.ownBlock ≠ some mb := by
  obtain ⟨e1, c1, s1⟩ := h.plc.shape
  have s0 := h.blk
  refine ⟨fun e => ?_, fun e => ?_, fun e => ?_⟩
  · subst e; rw [s0] at s1; cases s1
  · obtain ⟨cur, s3⟩ := own_shape h.own e
    rw [s0] at s3; cases s3
  · obtain ⟨cur, s3⟩ := own_shape h.own e
    rw [s1] at s3; cases s3
theorem PickAt.keep {vars : Int} {B qb mb : Nat} {fa : Option Addr} {fc : Nat} {F : List BN} {v : Value} {ms : List BN} {w w' : World} (h : PickAt vars B qb mb fa fc F v ms w) (hk : ∀ g, FB qb mb mb v g → w'.heap[g]? = w.heap[g]?) (hb : Below B w w') : PickAt vars B qb mb fa fc F v ms w' := by
  obtain ⟨u, x, hg⟩ := h.glob
  exact ⟨(hk _ (.inl rfl)).trans h.blk, h.src.below hb, h.own.block (fun g _ _ hg => hk g (.inr (.inr (.inr hg)))), h.plc.of_block (hk _ (.inr (.inl rfl))), h.frs, h.frF, h.lq, h.lm, h.b0, u, x, (hb.cell (p := ⟨0, 0, none⟩) h.b0).trans hg⟩
theorem PickAt.below {vars : Int} {B qb mb : Nat} {fa : Option Addr} {fc : Nat} {F : List BN} {v : Value} {ms : List BN} {w w' : World} (h : PickAt vars B qb mb fa fc F v ms w) (hb : Below w.heap.size w w') : PickAt vars B qb mb fa fc F v ms w' :=
  h.keep (fun g hg => hb.block g (h.lt hg).2) (hb.mono (Nat.le_trans h.lq (Nat.le_of_lt (h.lt (.inl rfl)).2)))
theorem PickAt.step {vars : Int} {B qb mb : Nat} {fa : Option Addr} {fc : Nat} {F : List BN} {v v' : Value} {ms : List BN} {w w' : World} (h : PickAt vars B qb mb fa fc F v ms w) (hs : FStep qb mb mb v w v' w') : Below B w w' :=
  hs.below (Nat.le_trans h.lq (Nat.le_of_lt (h.lt (.inl rfl)).2)) (fun g hg => (h.lt hg).1)
def PickQ (vars : Int) (B qb mb : Nat) (fa : Option Addr) (fc : Nat) (F : List BN) (v : Value) (ms : List BN) (t : DT) (w : World) (e : Ending) (w' : World) : Prop :=
  (∃ m v' ms', e = .returned (.int .i64 m) ∧ PickAt vars B qb mb fa fc F v' ms' w' ∧ Adds t ms ms' m ∧ ms'.length ≤ 600 ∧ FStep qb mb mb v w v' w') ∨
  (∃ u x, e = .panicked [{ v := .iface u x, recovered := false }] ∧ Below B w w' ∧ ∀ ms' m, Adds t ms ms' m → 600 < ms'.length)
theorem Adds.le {t : DT} {ns n' : List BN} {p : Int} (h : Adds t ns n' p) : ns.length ≤ n'.length := by
  obtain ⟨m, rfl⟩ := h.ext
  rw [List.length_append]; omega
/-- The picker's nodes have been appended to, its table not yet. -/
structure PickMid (vars : Int) (B qb mb : Nat) (fa : Option Addr) (fc : Nat) (F : List BN) (v : Value) (ms : List BN) (n : BN) (w : World) : Prop where
  blk : w.heap[qb]? = some (.cells #[.slice fa F.length fc, v, .map (some mb)] 111 (0, 0))
  src : BnsAt B w fa F.length fc F
  own : OwnN w B v (ms ++ [n])
  plc : IntMap 3 mb (ms.length + 2) (PkR F ms) w
  frF : Frs vars F
  lq : B ≤ qb
  lm : B ≤ mb
  b0 : 0 < B
  glob : ∃ u x, w.cell? ⟨0, 0, none⟩ = some (.iface u x)
  nmb : v.ownBlock ≠ some mb
  nqm : qb ≠ mb
theorem pick_app {vars : Int} {B qb mb : Nat} {fa : Option Addr} {fc : Nat} {F ms : List BN} {a : Option Addr} {cap : Nat} {n : BN} {w w4 wd : World} {o : Obj} {g cap' : Nat} (h : PickAt vars B qb mb fa fc F (.slice a ms.length cap) ms w) (hok : n.ok) (hd : wd.heap = w.heap) (hd1 : wd.os = w.os) (hd2 : wd.tape = w.tape) (hd3 : wd.output = w.output)
    (hown : w4.ownsRow B 67 3 (.slice (some ⟨g, 0, none⟩) (ms.length + 1) cap') (ms.length + 1) (ms.flatMap BN.cells ++ [.int .i64 n.v, .int .i64 n.lo, .int .i64 n.hi])) (hg : (wd.alloc o).grownBy w4 (Value.slice a ms.length cap).ownBlock)
    (hat : (Value.slice a ms.length cap).ownBlock = some g ∨ g = (wd.alloc o).heap.size) :
    PickMid vars B qb mb fa fc F (.slice (some ⟨g, 0, none⟩) (ms.length + 1) cap') ms n (w4.setCell ⟨qb, 1, none⟩ (.slice (some ⟨g, 0, none⟩) (ms.length + 1) cap')) ∧
      FStep qb mb mb (.slice a ms.length cap) w (.slice (some ⟨g, 0, none⟩) (ms.length + 1) cap') (w4.setCell ⟨qb, 1, none⟩ (.slice (some ⟨g, 0, none⟩) (ms.length + 1) cap')) := by
  have hsz : (wd.alloc o).heap.size = w.heap.size + 1 := by show (wd.heap.push o).size = _; rw [hd]; simp
  have hal : ∀ k, k < w.heap.size → (wd.alloc o).heap[k]? = w.heap[k]? := fun k hk => by
    have := Below.heap_alloc wd o k (by rw [hd]; exact hk)
    rw [this, hd]
  have hk4 : ∀ k, k < w.heap.size → (Value.slice a ms.length cap).ownBlock ≠ some k → w4.heap[k]? = w.heap[k]? := fun k hk hn => (hg.block k (by omega) (fun e => hn e.symm)).trans (hal k hk)
  obtain ⟨n1, n3, n4⟩ := h.ne
  have lf := (h.lt (.inl rfl)).2
  have lm := (h.lt (.inr (.inl rfl))).2
  have gne : ∀ k, k < w.heap.size → (Value.slice a ms.length cap).ownBlock ≠ some k → g ≠ k := fun k hk hn e => by
    rcases hat with h1 | h1
    · exact hn (by rw [h1, e])
    · omega
  have hset : ∀ k, k ≠ qb → (w4.setCell ⟨qb, 1, none⟩ (.slice (some ⟨g, 0, none⟩) (ms.length + 1) cap')).heap[k]? = w4.heap[k]? := fun k hk => heap_setCell_other _ _ _ _ hk
  have hstep : FStep qb mb mb (.slice a ms.length cap) w (.slice (some ⟨g, 0, none⟩) (ms.length + 1) cap') (w4.setCell ⟨qb, 1, none⟩ (.slice (some ⟨g, 0, none⟩) (ms.length + 1) cap')) := by
    refine ⟨hg.os.trans hd1, hg.tape.trans hd2, hg.output.trans hd3, ?_, ?_, ?_⟩
    · have := hg.size
      show _ ≤ (w4.setCell _ _).heap.size
      simp [World.setCell]
      omega
    · intro k hk hn
      exact (hset k (fun e => hn (.inl e))).trans (hk4 k hk (fun e => hn (.inr (.inr (.inr e)))))
    · intro y hy
      simp only [Value.ownBlock, Option.some.injEq] at hy
      rcases hat with h1 | h1
      · exact .inl (by rw [h1, hy])
      · exact .inr (by omega)
  have hbel := h.step hstep
  obtain ⟨u, x, hgl⟩ := h.glob
  refine ⟨⟨?_, h.src.below hbel, ?_, ?_, h.frF, h.lq, h.lm, h.b0, ⟨u, x, (hbel.cell (p := ⟨0, 0, none⟩) h.b0).trans hgl⟩, ?_, n1⟩, hstep⟩
  · exact heap_setCell_same _ _ 1 _ _ _ ((hk4 qb lf n3).trans h.blk)
  · have h1 : OwnN w4 B (.slice (some ⟨g, 0, none⟩) (ms.length + 1) cap') (ms ++ [n]) := h.own.app (ms := [n]) (fun y hy => by simp at hy; rw [hy]; exact hok) hown
    refine h1.block (fun y _ _ hy => hset y (fun e => ?_))
    simp only [Value.ownBlock, Option.some.injEq] at hy
    exact gne qb lf n3 (hy.trans e)
  · exact h.plc.of_block ((hset mb (fun e => n1 e.symm)).trans (hk4 mb lm n4))
  · intro e
    simp only [Value.ownBlock, Option.some.injEq] at e
    exact gne mb lm n4 e
theorem pick_put {vars p : Int} {B qb mb : Nat} {fa : Option Addr} {fc : Nat} {F ms : List BN} {v : Value} {n : BN} {w w' : World} {t : DT} (h : PickMid vars B qb mb fa fc F v ms n w) (hF' : Frs vars (ms ++ [n])) (ht : TreeOf F p t) (htn : TreeOf (ms ++ [n]) ((ms.length : Int) + 2) t) (hms : Frs vars ms)
    (hm : IntMap 3 mb (ms.length + 2 + 1) (fun q y => (q = .int .i64 p ∧ y = (ms.length : Int) + 2) ∨ (q ≠ .int .i64 p ∧ PkR F ms q y)) w') (hg : w.grownBy w' (some mb)) : PickAt vars B qb mb fa fc F v (ms ++ [n]) w' ∧ FStep qb mb mb v w v w' := by
  have hk : ∀ k, k < w.heap.size → k ≠ mb → w'.heap[k]? = w.heap[k]? := fun k hk hn => hg.block k hk (fun e => hn (Option.some.inj e))
  have hst : FStep qb mb mb v w v w' := ⟨hg.os, hg.tape, hg.output, hg.size, fun k hk' hn => hk k hk' (fun e => hn (.inr (.inl e))), fun g hg' => .inl hg'⟩
  have lq := (Array.getElem?_eq_some_iff.1 h.blk).1
  have hbel : Below B w w' := hst.below (Nat.le_trans h.lq (Nat.le_of_lt lq)) (fun g hg => by
    rcases hg with rfl | rfl | rfl | hg
    · exact h.lq
    · exact h.lm
    · exact h.lm
    · exact (h.own.1.lt g hg).1)
  obtain ⟨u, x, hgl⟩ := h.glob
  refine ⟨⟨(hk qb lq h.nqm).trans h.blk, h.src.below hbel, h.own.block (fun y _ hy hy' => hk y hy (fun e => h.nmb (by rw [hy', e]))), ?_, hF', h.frF, h.lq, h.lm, h.b0, ⟨u, x, (hbel.cell (p := ⟨0, 0, none⟩) h.b0).trans hgl⟩⟩, hst⟩
  have e : (ms ++ [n]).length + 2 = ms.length + 2 + 1 := by simp
  rw [e]
  refine hm.iff (fun q z => ⟨?_, ?_⟩)
  · rintro (⟨rfl, rfl⟩ | ⟨h1, p', s, h2, h3, h4⟩)
    · exact ⟨p, t, rfl, ht, htn⟩
    · exact ⟨p', s, h2, h3, h4.app _⟩
  · rintro ⟨p', s, rfl, h2, h3⟩
    have hr := h3.rng
    simp only [List.length_append, List.length_cons, List.length_nil] at hr
    rcases Int.lt_or_le z ((ms.length : Int) + 2) with hlt | hge
    · by_cases hp : p' = p
      · subst hp
        have e1 := ht.same h2
        subst e1
        have := TreeOf.place hF' h3 htn
        omega
      · exact .inr ⟨fun e => hp (by injection e), p', s, rfl, h2, h3.cut hms hlt⟩
    · obtain rfl : z = (ms.length : Int) + 2 := by omega
      have e1 := htn.same h3
      subst e1
      rw [TreeOf.place h.frF h2 ht]
      exact .inl ⟨rfl, rfl⟩

set_option maxHeartbeats 16000000 in
theorem c_pick {vars : Int} {B qb mb : Nat} {fa : Option Addr} {fc : Nat} {F : List BN} (hv13 : vars ≤ 13) (hF6 : F.length ≤ 1000000) : ∀ (t : DT) (p k : Int) (v : Value) (ms : List BN) (w : World), PickAt vars B qb mb fa fc F v ms w → TreeOf F p t → 0 ≤ k → t.Red vars k → ms.length ≤ 600 →
    Calls Tryd.prog 97 #[.pointer (some ⟨qb, 0, none⟩), .int .i64 p] w (PickQ vars B qb mb fa fc F v ms t w) := by
  intro t
  induction t with
  | leaf bb =>
    intro p k v ms w h ht hk hr hl
    have HP := Go.Lib.hid h
    have HT := Go.Lib.hid ht
    have HL := Go.Lib.hid hl
    have hp0 := ht.rng
    have hwf : (Lit.int .i64 p).wf = true := fits_small hp0.1 (by omega)
    have HWF := Go.Lib.hid hwf
    obtain ⟨z, ok, hrun, hyes, hno⟩ := h.plc.look intK Tryd.underlying109 (keyOf_int_mk Tryd.underlying3 hwf)
    have hrun0 := hrun w rfl
    clear hrun hwf
    have q2 := cell_of_block (i := 2) h.blk (v := .map (some mb)) rfl
    cases ok with
    | true =>
      obtain ⟨p', t', e1, e2, e3⟩ := hyes rfl
      have e4 : p' = p := by injection e1 with _ e; exact e.symm
      subst e4
      have e5 := ht.same e2
      subst e5
      have HA := Go.Lib.hid (Adds.of e3)
      have HS := Go.Lib.hid (FStep.refl qb mb mb v w)
      clear h ht hyes hno e1 e2 e3 hl hp0
      go_enter Tryd.func97, Tryd.ntmps97
      go_wp2_with fail
      go_ret
      exact .inl ⟨_, v, ms, rfl, HP.out, HA.out, HL.out, HS.out⟩
    | false =>
      refine absurd ?_ (hno rfl p)
      cases ht with
      | no => exact ⟨0, _, rfl, .no, .no⟩
      | yes => exact ⟨1, _, rfl, .yes, .yes⟩
  | node x l r ihl ihr =>
    intro p k v ms w h ht hk hr hl
    have HP := Go.Lib.hid h
    have HT := Go.Lib.hid ht
    have HL := Go.Lib.hid hl
    have hp0 := ht.rng
    have hwf : (Lit.int .i64 p).wf = true := fits_small hp0.1 (by omega)
    have HWF := Go.Lib.hid hwf
    obtain ⟨z, ok, hrun, hyes, hno⟩ := h.plc.look intK Tryd.underlying109 (keyOf_int_mk Tryd.underlying3 hwf)
    have hrun0 := hrun w rfl
    clear hrun hwf
    have q2 := cell_of_block (i := 2) h.blk (v := .map (some mb)) rfl
    cases ok with
    | true =>
      obtain ⟨p', t', e1, e2, e3⟩ := hyes rfl
      have e4 : p' = p := by injection e1 with _ e; exact e.symm
      subst e4
      have e5 := ht.same e2
      subst e5
      have HA := Go.Lib.hid (Adds.of e3)
      have HS := Go.Lib.hid (FStep.refl qb mb mb v w)
      clear h ht hyes hno e1 e2 e3 hl hp0
      go_enter Tryd.func97, Tryd.ntmps97
      go_wp2_with fail
      go_ret
      exact .inl ⟨_, v, ms, rfl, HP.out, HA.out, HL.out, HS.out⟩
    | false =>
      have HNO := Go.Lib.hid (show ∀ m, ¬ TreeOf ms m (.node x l r) from fun m hm => hno rfl m ⟨p, _, rfl, ht, hm⟩)
      clear hyes hno
      obtain ⟨kk, hkk, rfl, hxv, tl, tr⟩ := ht.split
      have HIL := Go.Lib.hid ihl
      have HIR := Go.Lib.hid ihr
      have HTL := Go.Lib.hid tl
      have HTR := Go.Lib.hid tr
      have HRED := Go.Lib.hid hr
      have HK0 := Go.Lib.hid hk
      have HXV := Go.Lib.hid hxv
      have hkki : (kk : Int) < F.length := by omega
      have hk3 : (kk : Int) + 2 - 2 = kk := by omega
      obtain ⟨n, b, off, hn, -, rfl, hbB, c0, c1, c2⟩ := bn_at h.src hkk
      rw [← hn] at HTL HTR HXV
      have HXV := Go.Lib.hid (show n.v = x from HXV.out.symm)
      have q0 := cell_of_block (i := 0) h.blk (v := .slice (some ⟨b, off, none⟩) F.length fc) rfl
      have HNF := Go.Lib.hid (show ¬ FB qb mb mb v w.heap.size from fun hg => Nat.lt_irrefl _ (h.lt hg).2)
      obtain ⟨i1, hi1, hz01, hz11, hz21⟩ := info_parts bnInfo
      have HI1 := Go.Lib.hid hi1
      have HZ01 := Go.Lib.hid hz01
      have HZ11 := Go.Lib.hid hz11
      have HZ21 := Go.Lib.hid hz21
      clear hi1 hz01 hz11 hz21 h ht tl tr hxv hn ihl ihr hr hl hp0 hk
      go_enter Tryd.func97, Tryd.ntmps97
      go_upto_region 5 with fail
      refine code_gen (R := fun wb => wb.heap[w.heap.size]? = some (.cells #[.int .i64 n.v, .int .i64 n.lo, .int .i64 n.hi] 67 (0, 0)) ∧ Below w.heap.size w wb) ⟨by first | exact (MapKept.heap_alloc _ _).1 | exact heap_alloc_new _ _, by go_grown⟩ ?_
      rintro w1 ⟨k1, hb1⟩
      have HP1 := Go.Lib.hid (HP.out.below hb1)
      have HB1 := Go.Lib.hid (FStep.of_below (fb := qb) (mb := mb) (pb := mb) (v := v) hb1)
      have HK1 := Go.Lib.hid k1
      have HLT1 := Go.Lib.hid (Array.getElem?_eq_some_iff.1 k1).1
      have z1 := cell_of_block (i := 1) k1 (v := .int .i64 n.lo) rfl
      clear k1 hb1 c0 c1 c2 q0 q2 hrun0
      go_wp2_with fail
      refine (HIL.out n.lo (x + 1) v ms w1 HP1.out HTL.out (by have := HRED.out.1.1; have := HK0.out; omega) HRED.out.2.2.1 HL.out).mono ?_
      rintro e w2 (⟨ml, v2, ms2, rfl, hp2, ha2, hl2, hs2⟩ | ⟨u, y, rfl, hb2, hno2⟩)
      rotate_left
      · have HB2 := Go.Lib.hid ((HP.out.step HB1.out).trans hb2)
        have HN2 := Go.Lib.hid hno2
        clear hb2 hno2
        go_wp2_with fail
        refine ⟨rfl, .inr ⟨u, y, rfl, HB2.out, fun ms' m ha => ?_⟩⟩
        cases ha with
        | here ht => exact absurd ht (HNO.out _)
        | new _ hl hh => have h1 := HN2.out _ _ hl; have h2 := hh.le; rw [List.length_append]; omega
      have HP2 := Go.Lib.hid hp2
      have HA2 := Go.Lib.hid ha2
      have HL2 := Go.Lib.hid hl2
      have HS2 := Go.Lib.hid hs2
      have HK2 := Go.Lib.hid ((hs2.block _ HLT1.out HNF.out).trans HK1.out)
      have z2 := cell_of_block (i := 2) HK2.out (v := .int .i64 n.hi) rfl
      clear hp2 ha2 hl2 hs2 z1
      go_wp2_with fail
      refine (HIR.out n.hi (x + 1) v2 ms2 w2 HP2.out HTR.out (by have := HRED.out.1.1; have := HK0.out; omega) HRED.out.2.2.2 HL2.out).mono ?_
      rintro e w3 (⟨mh, v3, ms3, rfl, hp3, ha3, hl3, hs3⟩ | ⟨u, y, rfl, hb3, hno3⟩)
      rotate_left
      · have HB3 := Go.Lib.hid (((HP.out.step HB1.out).trans (HP1.out.step HS2.out)).trans hb3)
        have HN3 := Go.Lib.hid hno3
        have HFL := Go.Lib.hid (HP1.out.frs)
        clear hb3 hno3
        go_wp2_with fail
        refine ⟨rfl, .inr ⟨u, y, rfl, HB3.out, fun ms' m ha => ?_⟩⟩
        cases ha with
        | here ht => exact absurd ht (HNO.out _)
        | new _ hl hh =>
          have e1 := HA2.out.inj (k := x + 1) (by have := HRED.out.1.1; have := HK0.out; omega) HRED.out.2.2.1 HFL.out hl
          rw [← e1.1] at hh
          have h1 := HN3.out _ _ hh
          rw [List.length_append]; omega
      have HP3 := Go.Lib.hid hp3
      have HA3 := Go.Lib.hid ha3
      have HL3 := Go.Lib.hid hl3
      have HS3 := Go.Lib.hid (HS2.out.trans hs3)
      have HK3 := Go.Lib.hid ((HS3.out.block _ HLT1.out HNF.out).trans HK1.out)
      have HFR := Go.Lib.hid ((Adds.new HNO.out HA2.out HA3.out).all HK0.out HRED.out HP.out.frs).1
      obtain ⟨va, vc, rfl, -⟩ := OwnN.form hp3.own
      have q1 := cell_of_block (i := 1) hp3.blk (v := .slice va ms3.length vc) rfl
      obtain ⟨u, y, hgl⟩ := hp3.glob
      clear hp3 ha3 hl3 hs3 z2
      by_cases h600 : ms3.length = 600
      · have h600i : (ms3.length : Int) = 600 := by omega
        have HB3 := Go.Lib.hid ((HP.out.step HB1.out).trans (HP1.out.step HS3.out))
        have HFL := Go.Lib.hid HP1.out.frs
        have HFL2 := Go.Lib.hid HP2.out.frs
        go_wp2_with fail
        refine ⟨rfl, .inr ⟨u, y, rfl, HB3.out, fun ms' m ha => ?_⟩⟩
        cases ha with
        | here ht => exact absurd ht (HNO.out _)
        | new _ hl hh =>
            have e1 := HA2.out.inj (k := x + 1) (by have := HRED.out.1.1; have := HK0.out; omega) HRED.out.2.2.1 HFL.out hl
            rw [← e1.1] at hh
            have e2 := HA3.out.inj (k := x + 1) (by have := HRED.out.1.1; have := HK0.out; omega) HRED.out.2.2.2 HFL2.out hh
            rw [List.length_append, ← e2.1]
            show 600 < ms3.length + 1
            omega
      have h600i : ¬ (ms3.length : Int) = 600 := by omega
      have h600b : ((ms3.length : Int) == 600) = false := by simp [h600i]
      have HL6 := Go.Lib.hid (show ms3.length < 600 by have := HL3.out; omega)
      clear hgl h600
      have hnv : fits n.v := fits_small (by rw [HXV.out]; have h1 := HRED.out.1.1; have h2 := HK0.out; omega) (by rw [HXV.out]; have h2 := HRED.out.1.2; omega)
      have hml : fits ml := fits_small HA2.out.tree.rng.1 (by have h1 := HA2.out.tree.rng.2; have h2 := HA3.out.le; have h3 := HL3.out; omega)
      have hmh : fits mh := fits_small HA3.out.tree.rng.1 (by have h1 := HA3.out.tree.rng.2; have h3 := HL3.out; omega)
      have HNOK := Go.Lib.hid (show BN.ok ⟨n.v, ml, mh⟩ from ⟨hnv, hml, hmh⟩)
      clear hnv hml hmh
      have h599 : (ms3.length : Int) ≤ 599 := by have := HL6.out; omega
      go_upto_region 10 with fail
      refine code_gen (R := fun wb => wb.heap[w.heap.size]? = some (.cells #[.int .i64 n.v, .int .i64 n.lo, .int .i64 n.hi] 67 (0, 0)) ∧ PickAt vars B qb mb (some ⟨b, off, none⟩) fc F (.slice va ms3.length vc) ms3 wb ∧ FStep qb mb mb v w1 (.slice va ms3.length vc) wb) ⟨HK3.out, HP3.out.keep (fun _ _ => rfl) ⟨rfl, rfl, rfl, Nat.le_refl _, fun _ _ => rfl⟩, HS3.out⟩ ?_
      clear q1 HS3 HK3 HP3
      rintro w4 ⟨k4, hp4, hs4⟩
      have HP4 := Go.Lib.hid hp4
      have HS4 := Go.Lib.hid hs4
      have HK4 := Go.Lib.hid k4
      have q1 := cell_of_block (i := 1) hp4.blk (v := .slice va ms3.length vc) rfl
      have r1 := free_of_block (i := 1) hp4.blk
      have z0 := cell_of_block (i := 0) k4 (v := .int .i64 n.v) rfl
      have HQL := Go.Lib.hid (hp4.lt (.inl rfl)).2
      have HQN := Go.Lib.hid hp4.ne.2.1
      have HOW := Go.Lib.hid hp4.own.1
      have HBW := Go.Lib.hid (show B ≤ w4.heap.size from Nat.le_trans hp4.lq (Nat.le_of_lt (hp4.lt (.inl rfl)).2))
      have q1a : ∀ o, (w4.alloc o).cell? ⟨qb, 1, none⟩ = some (.slice va ms3.length vc) := fun o => keepc (show Below w4.heap.size w4 (w4.alloc o) by go_grown) (hp4.lt (.inl rfl)).2 q1
      clear k4 hp4 hs4
      go_region_law (first | (refine step_append_lies _ rfl (.tmp 55) (.tmp 61) 23 rfl B 67 i1 (.agg #[.int .i64 0, .int .i64 0, .int .i64 0]) 3 24 Tryd.underlying23 HI1.out HZ01.out HZ11.out HZ21.out rfl (by decide) (.slice va ms3.length vc) ms3.length _ (by simp [Act.eval]) (by first | exact HOW.out.drew.alloc _ | exact HOW.out.alloc _ | exact (HOW.out.alloc _).drew) ⟨w4.heap.size, 0, none⟩ 1 1 [.int .i64 n.v, .int .i64 ml, .int .i64 mh] (by simp [Act.eval]) rfl (by first | exact bn_new ⟨n.v, ml, mh⟩ w4.drew | exact bn_new ⟨n.v, ml, mh⟩ w4) (bn_one ⟨n.v, ml, mh⟩) (by decide) (by unfold maxLen; have := HL6.out; omega) (by have := HL6.out; omega) (by first | exact Nat.le_trans HBW.out (Nat.le_of_lt (alloc_ltS _ _)) | (simp; have := HBW.out; omega)) _ rfl ?_; intro g cap' w5 hown' hgrow' hat hlt5; have v5 := (World.cell?_of_block (w := w4) (w' := w5) (a := ⟨qb, 1, none⟩) (forest_far hgrow' HQL.out HQN.out)).trans q1; have r5 := (World.frozen?_of_block (w := w4) (w' := w5) (a := ⟨qb, 1, none⟩) (forest_far hgrow' HQL.out HQN.out)).trans r1))
      all_goals
        have HQ := Go.Lib.hid (pick_app (n := ⟨n.v, ml, mh⟩) (wd := w4.drew) HP4.out HNOK.out rfl rfl rfl rfl hown' hgrow' hat)
        clear hown' hgrow' hat hlt5 v5 r5 q1 r1 z0 q1a
        go_upto_region 11 with fail
        refine code_gen (R := fun wb => PickMid vars B qb mb (some ⟨b, off, none⟩) fc F (.slice (some ⟨g, 0, none⟩) (ms3.length + 1) cap') ms3 ⟨n.v, ml, mh⟩ wb ∧ FStep qb mb mb v w1 (.slice (some ⟨g, 0, none⟩) (ms3.length + 1) cap') wb) ⟨HQ.out.1, HS4.out.trans HQ.out.2⟩ ?_
        have HFR3 := Go.Lib.hid HP4.out.frs
        clear HQ HP4 HS4 HK4 HQL HOW HBW
        rintro w6 ⟨hm6, hs6⟩
        have HM6 := Go.Lib.hid hm6
        have HS6 := Go.Lib.hid hs6
        have q2 := cell_of_block (i := 2) hm6.blk (v := .map (some mb)) rfl
        obtain ⟨w7, hrun7, hm7, hg7⟩ := IntMap.store (w := w6) hm6.plc intK Tryd.underlying109 (by unfold maxLen; have := HL6.out; omega) (keyOf_int_mk Tryd.underlying3 HWF.out) (z := (ms3.length : Int) + 2) (fits_small (by omega) (by have := HL6.out; omega))
        have HM7 := Go.Lib.hid hm7
        have HG7 := Go.Lib.hid hg7
        clear hm6 hs6 hm7 hg7
        go_wp2_with fail
        go_ret
        have hadd : Adds (.node x l r) ms (ms3 ++ [⟨n.v, ml, mh⟩]) ((ms3.length : Int) + 2) := by
          have := Adds.new HNO.out HA2.out HA3.out
          rw [HXV.out]
          exact this
        have hpp := pick_put HM6.out (hadd.all HK0.out HRED.out HP.out.frs).1 HT.out hadd.tree HFR3.out HM7.out HG7.out
        exact .inl ⟨_, _, _, rfl, hpp.1, hadd, by rw [List.length_append]; have := HL6.out; show ms3.length + 1 ≤ 600; omega, (HB1.out.trans HS6.out).trans hpp.2⟩
end Go.Proofs.YthdofdglbdfkkaaDoor
