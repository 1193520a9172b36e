/-
  When a diagram is one: the model.
-/
import Derived.Test.YthdofdglbdfkkaaDoorRows
import Derived.Test.YthdofdglbdfkkaaDoorG0
import Derived.Test.YthdofdglbdfkkaaDoorBdM
import Derived.Test.YthdofdglbdfkkaaDoorBdI
import Derived.WalkKit
import Derived.ProofKit
import Derived.OpenShut
import Derived.WalkSpells
import Derived.WalkLawsBesides
import Derived.Outline
import Derived.BigQuiet
import Derived.Handy
import Derived.LoopTactic
import Derived.Deep.Light
import Derived.Deep.RegionWith
import Derived.Deep.RegionHeld3
import Derived.Deep.DeepCutAuto
import Derived.Lib.Hide
import Derived.Maps.OwnRows
import Derived.Deep.Onto
import Derived.OneCell
import Derived.StillTailTactics
import Derived.Deep.AppendLies
import Derived.Deep.RegionLaw
namespace Go.Proofs.YthdofdglbdfkkaaDoor
open Go.ChangeShapes Go.WideShapes Go.ChangeAt Go.RowKit Go.Maps Go.ChangeMaps
set_option linter.unusedVariables false
set_option maxRecDepth 100000


theorem b_l1In_t (n lo hi : Int) (h1 : lo ≤ n) (h2 : n ≤ hi) (w : World) :
    Calls Tryd.prog 66 #[.int .i64 n, .int .i64 lo, .int .i64 hi] w fun e w' => e = .returned (.bool true) ∧ w = w' :=
  (c_l1In n lo hi w).mono fun e w' ⟨he, hw⟩ => ⟨by rw [he]; simp [h1, h2], hw.symm⟩
theorem b_l1In_f (n lo hi : Int) (h : n < lo ∨ hi < n) (w : World) :
    Calls Tryd.prog 66 #[.int .i64 n, .int .i64 lo, .int .i64 hi] w fun e w' => e = .returned (.bool false) ∧ w = w' :=
  (c_l1In n lo hi w).mono fun e w' ⟨he, hw⟩ => ⟨by rw [he]; refine ret_bool ?_; simp; omega, hw.symm⟩
theorem c_l7Vars (n : Int) (w : World) : Calls Tryd.prog 65 #[.int .i64 n] w fun e w' => e = .returned (.bool (varsB n)) ∧ w = w' := by
  go_enter Tryd.func65, Tryd.ntmps65
  go_wp2_with (go_at_call 66; refine (c_l1In _ _ _ _).mono ?_; rintro e w' ⟨rfl, rfl⟩)
  go_ret
  exact ⟨ret_bool (dec_and ..), rfl⟩
set_option maxHeartbeats 4000000 in
theorem c_l7VarOf {B : Nat} {a : Option Addr} {len cap : Nat} {ns : List BN} (vars root p : Int) (w : World) (hBw : B ≤ w.heap.size) (h : BnsAt B w a len cap ns) (h0 : 0 ≤ p) (h1 : p < (len : Int) + 2) :
    Calls Tryd.prog 80 #[.agg #[.int .i64 vars, .slice a len cap, .int .i64 root], .int .i64 p] w fun e w' => e = .returned (.int .i64 (vAt vars ns p)) ∧ Below w.heap.size w w' := by
  have HN := Go.Lib.hid h
  have hlm := Nat.le_trans h.2.1 h.2.2.1
  unfold maxLen at hlm
  clear h
  by_cases hp : p < 2
  · have HE := Go.Lib.hid (show vAt vars ns p = vars by unfold vAt; rw [if_pos hp])
    go_enter Tryd.func80, Tryd.ntmps80
    go_upto_region 1 with fail
    refine code_gen (R := fun wb => BBox vars a len cap root w wb) (BBox.new _ _ _ _ _ _) ?_
    intro w0 hbox
    have HX0 := Go.Lib.hid hbox
    obtain ⟨x0, x1, x2⟩ := hbox.cells
    clear hbox
    go_wp2_with fail
    go_ret
    exact ⟨ret_int HE.out.symm, HX0.out.bel⟩
  · obtain ⟨q, hq⟩ : ∃ q : Nat, p = (q : Int) + 2 := ⟨(p - 2).toNat, by omega⟩
    subst hq
    have e3 : (q : Int) + 2 - 2 = q := by omega
    have hql : q < len := by omega
    have hqi : (q : Int) < len := by omega
    go_enter Tryd.func80, Tryd.ntmps80
    go_upto_region 1 with fail
    refine code_gen (R := fun wb => BBox vars a len cap root w wb) (BBox.new _ _ _ _ _ _) ?_
    intro w0 hbox
    have HX0 := Go.Lib.hid hbox
    obtain ⟨x0, x1, x2⟩ := hbox.cells
    obtain ⟨x, b, off, hx, -, rfl, hbB, c0, c1, c2⟩ := bn_at (HN.out.below (hbox.bel.mono hBw)) hql
    have HE := Go.Lib.hid (show vAt vars ns ((q : Int) + 2) = x.v by unfold vAt; rw [if_neg hp, e3, hx]; rfl)
    clear hbox hx
    go_wp2_with fail
    go_ret
    exact ⟨ret_int HE.out.symm, HX0.out.bel⟩

/-- What the places that are done have become: nothing that was there has turned but their block. -/
def OrdP (base : Nat) (dv : Value) (zs : List Int) (w : World) (e : Ending) (w' : World) : Prop := ∃ v, e = .returned v ∧ w'.ownsInts base 3 .i64 v zs ∧ w.grownBy w' dv.ownBlock ∧ (v.ownBlock = dv.ownBlock ∨ ∀ y, v.ownBlock = some y → w.heap.size ≤ y)
theorem OrdP.drew {base : Nat} {dv : Value} {zs : List Int} {w : World} {e : Ending} {w' : World} (h : OrdP base dv zs w.drew e w') : OrdP base dv zs w e w' := by
  obtain ⟨v, h1, h2, h3, h4⟩ := h
  exact ⟨v, h1, h2, ⟨h3.os, h3.tape, h3.output, h3.size, h3.block⟩, h4⟩
theorem grown_two {w w1 w2 : World} {dv v : Value} (h : w.grownBy w1 dv.ownBlock) (k : w1.grownBy w2 v.ownBlock) (hv : v.ownBlock = dv.ownBlock ∨ ∀ y, v.ownBlock = some y → w.heap.size ≤ y) : w.grownBy w2 dv.ownBlock :=
  ⟨k.os.trans h.os, k.tape.trans h.tape, k.output.trans h.output, Nat.le_trans h.size k.size, fun b hb hn => (k.block b (Nat.lt_of_lt_of_le hb h.size) (fun e => by
    rcases hv with hv | hv
    · rw [hv] at e; exact hn e
    · have := hv b e.symm; omega)).trans (h.block b hb hn)⟩
theorem own_two {w w1 : World} {dv v v' : Value} (h : w.heap.size ≤ w1.heap.size) (hv : v.ownBlock = dv.ownBlock ∨ ∀ y, v.ownBlock = some y → w.heap.size ≤ y) (hv' : v'.ownBlock = v.ownBlock ∨ ∀ y, v'.ownBlock = some y → w1.heap.size ≤ y) : v'.ownBlock = dv.ownBlock ∨ ∀ y, v'.ownBlock = some y → w.heap.size ≤ y := by
  rcases hv' with h1 | h1
  · rcases hv with h2 | h2
    · exact .inl (h1.trans h2)
    · exact .inr (fun y hy => h2 y (h1 ▸ hy))
  · exact .inr (fun y hy => Nat.le_trans h (h1 y hy))
theorem grown_cell {w w' : World} {ob : Option Nat} {g o : Nat} {v : Value} (h : w.grownBy w' ob) (hg : g < w.heap.size) (hn : ob ≠ some g) (hc : w.cell? ⟨g, o, none⟩ = some v) : w'.cell? ⟨g, o, none⟩ = some v :=
  (World.cell?_of_block (w := w) (w' := w') (a := ⟨g, o, none⟩) (h.block g hg (fun e => hn e.symm))).trans hc
theorem grown_below' {B : Nat} {w w' : World} {ob : Option Nat} (h : w.grownBy w' ob) (hB : B ≤ w.heap.size) (ho : ∀ y, ob = some y → B ≤ y) : Below B w w' := (Below.refl B w).grown h hB ho
theorem BBox.grown {vars : Int} {a : Option Addr} {len cap : Nat} {root : Int} {w wr w' : World} {ob : Option Nat} (h : BBox vars a len cap root w wr) (hg : wr.grownBy w' ob) (hn : ob ≠ some w.heap.size) : w'.heap[w.heap.size]? = some (.cells #[.int .i64 vars, .slice a len cap, .int .i64 root] 25 (0, 0)) :=
  (hg.block _ h.lt (fun e => hn e.symm)).trans h.blk

set_option maxHeartbeats 16000000 in
theorem c_l7Order {B base : Nat} {a : Option Addr} {len cap : Nat} {ns : List BN} (vars root : Int) (hBb : B ≤ base) (hl : len ≤ 600) (hnl : ns.length = len) (hA : Ahead ns) : ∀ (f : Nat) (p : Int) (zs : List Int) (dv : Value) (w : World), BnsAt B w a len cap ns → base ≤ w.heap.size → w.ownsInts base 3 .i64 dv zs → 0 ≤ p → p ≤ f → p < (len : Int) + 2 → DoneL len zs →
    Calls Tryd.prog 81 #[.agg #[.int .i64 vars, .slice a len cap, .int .i64 root], .int .i64 p, dv] w (OrdP base dv (ord ns f p zs) w) := by
  have HA := Go.Lib.hid hA
  have HNL := Go.Lib.hid hnl
  clear hA hnl
  obtain ⟨i1, hi1, hz01, hz11, hz21⟩ := info_parts intInfo
  have HI1 := Go.Lib.hid hi1
  have HZ01 := Go.Lib.hid hz01
  have HZ11 := Go.Lib.hid hz11
  have HZ21 := Go.Lib.hid hz21
  clear hi1 hz01 hz11 hz21
  intro f
  induction f with
  | zero =>
    intro p zs dv w hN hbw ho h0 hp hl2 hD
    have hp2 : p < 2 := by omega
    have HO := Go.Lib.hid ho
    clear ho hp hN hD
    go_enter Tryd.func81, Tryd.ntmps81
    go_upto_region 1 with fail
    refine code_gen (R := fun wb => BBox vars a len cap root w wb) (BBox.new _ _ _ _ _ _) ?_
    intro w0 hbox
    have HX0 := Go.Lib.hid hbox
    clear hbox
    go_wp2_with fail
    go_ret
    exact ⟨_, rfl, own_block HO.out (fun g _ h2 _ => HX0.out.bel.block g h2), (World.grownBy.refl _ _).trans ⟨HX0.out.bel.os, HX0.out.bel.tape, HX0.out.bel.output, HX0.out.bel.size, fun b hb _ => HX0.out.bel.block b hb⟩, .inl rfl⟩
  | succ f ih =>
    intro p zs dv w hN hbw ho h0 hp hl2 hD
    have IH := Go.Lib.hid ih
    have HO := Go.Lib.hid ho
    have HN := Go.Lib.hid hN
    have HD := Go.Lib.hid hD
    have hzl : zs.length ≤ len := hD.len
    clear ih ho hN hD
    obtain ⟨da, dc, rfl, hform⟩ := own_form HO.out
    have hdb : ∀ y, Value.ownBlock (.slice da zs.length dc) = some y → base ≤ y ∧ y < w.heap.size := fun y hy => HO.out.1.lt y hy
    have HDB := Go.Lib.hid hdb
    clear hdb hform
    by_cases hp2 : p < 2
    · have HE := Go.Lib.hid (show ord ns (f + 1) p zs = zs by rw [ord, if_pos hp2])
      clear hp
      go_enter Tryd.func81, Tryd.ntmps81
      go_upto_region 1 with fail
      refine code_gen (R := fun wb => BBox vars a len cap root w wb) (BBox.new _ _ _ _ _ _) ?_
      intro w0 hbox
      have HX0 := Go.Lib.hid hbox
      clear hbox
      go_wp2_with fail
      go_ret
      exact ⟨_, rfl, by rw [HE.out]; exact own_block HO.out (fun g _ h2 _ => HX0.out.bel.block g h2), ⟨HX0.out.bel.os, HX0.out.bel.tape, HX0.out.bel.output, HX0.out.bel.size, fun b hb _ => HX0.out.bel.block b hb⟩, .inl rfl⟩
    have HP2 := Go.Lib.hid hp2
    go_enter Tryd.func81, Tryd.ntmps81
    go_upto_region 1 with fail
    refine code_gen (R := fun wb => BBox vars a len cap root w wb) (BBox.new _ _ _ _ _ _) ?_
    intro w0 hbox
    have HX0 := Go.Lib.hid hbox
    have hw0 : w.heap.size < w0.heap.size := hbox.lt
    have HO0 := Go.Lib.hid (show w0.ownsInts base 3 .i64 (.slice da zs.length dc) zs from own_block HO.out (fun g _ h2 _ => HX0.out.bel.block g h2))
    have HZ := Go.Lib.hid (own_ints HO0.out rfl)
    clear hbox
    go_wp2_with fail
    go_loopw [7] (fun i wr => ∃ j : Nat, j ≤ zs.length ∧ i = .int .i64 j ∧ (∀ y : Nat, y < j → zs.getD y 0 ≠ p) ∧ w0 = wr) (fun i _ => zs.length - (intOf i).toNat)
    case atStart => exact ⟨0, by omega, rfl, fun y h => by omega, by first | rfl | trivial⟩
    case round =>
      obtain ⟨j, hj, rfl, hno, rfl⟩ := hrel
      have HNO := Go.Lib.hid hno
      clear hno
      by_cases hjl : j < zs.length
      · have hji : (j : Int) < zs.length := by omega
        obtain ⟨z, b3, o3, hz, -, rfl, hbB3, z0⟩ := int_at HZ.out hjl
        by_cases hzp : z = p
        · have HE := Go.Lib.hid (show ord ns (f + 1) p zs = zs by
            rw [ord, if_neg (by have := HP2.out; omega), if_pos]
            rw [← hzp, ← hz]
            rw [show zs.getD j 0 = zs[j] by simp [List.getD, hjl]]
            exact List.getElem_mem _)
          clear hz
          subst hzp
          go_wp2_with fail
          go_ret
          exact ⟨_, rfl, by rw [HE.out]; exact HO0.out, ⟨HX0.out.bel.os, HX0.out.bel.tape, HX0.out.bel.output, HX0.out.bel.size, fun b hb _ => HX0.out.bel.block b hb⟩, .inl rfl⟩
        · have HZZ := Go.Lib.hid hz
          clear hz
          go_wp2_with fail
          go_roundw
          case rel => exact ⟨j + 1, by omega, by go_num, fun y hy => by
            rcases Nat.lt_or_ge y j with h | h
            · exact HNO.out y h
            · obtain rfl : y = j := by omega
              rw [HZZ.out]; exact hzp, by first | rfl | trivial⟩
          case measure => simp [intOf] <;> omega
      · have hji : ¬ (j : Int) < zs.length := by omega
        obtain rfl : j = zs.length := by omega
        have hnm : ¬ p ∈ zs := fun hm => by
          obtain ⟨i, hi, e⟩ := List.getElem_of_mem hm
          exact HNO.out i hi (by rw [show zs.getD i 0 = zs[i] by simp [List.getD, hi]]; exact e)
        have HE := Go.Lib.hid (show ord ns (f + 1) p zs = ord ns f (ns.getD (p - 2).toNat default).hi (ord ns f (ns.getD (p - 2).toNat default).lo zs) ++ [p] by rw [ord, if_neg (by have := HP2.out; omega), if_neg hnm])
        obtain ⟨q, hq⟩ : ∃ q : Nat, p = (q : Int) + 2 := ⟨(p - 2).toNat, by omega⟩
        subst hq
        have e3 : (q : Int) + 2 - 2 = q := by omega
        have hql : q < len := by omega
        have hqi : (q : Int) < len := by omega
        have HN0 := Go.Lib.hid (HN.out.below (HX0.out.bel.mono (Nat.le_trans hBb hbw)))
        obtain ⟨x, b, off, hx, -, rfl, hbB, c0, c1, c2⟩ := bn_at HN0.out hql
        obtain ⟨⟨l0, l1⟩, g0, g1⟩ := HA.out q (by rw [HNL.out]; exact hql)
        rw [e3] at HE
        rw [show ns.getD ((q : Int)).toNat default = x from hx.symm] at HE
        rw [← hx] at l0 l1 g0 g1
        obtain ⟨x0, x1, x2⟩ := HX0.out.cells
        have HDL := Go.Lib.hid (show DoneL len (ord ns f x.lo zs) from by have := DoneL.ord HA.out (f := f) (p := x.lo) (D := zs) (by omega) (by rw [HNL.out]; omega) (by rw [HNL.out]; exact HD.out); rw [HNL.out] at this; exact this)
        have HDH := Go.Lib.hid (show DoneL len (ord ns f x.hi (ord ns f x.lo zs)) from by have := DoneL.ord HA.out (f := f) (p := x.hi) (D := ord ns f x.lo zs) (by omega) (by rw [HNL.out]; omega) (by rw [HNL.out]; exact HDL.out); rw [HNL.out] at this; exact this)
        clear hx hnm HNO
        obtain ⟨zl, hzl'⟩ : ∃ zl, ord ns f x.lo zs = zl := ⟨_, rfl⟩
        obtain ⟨zh, hzh'⟩ : ∃ zh, ord ns f x.hi zl = zh := ⟨_, rfl⟩
        rw [hzl', hzh'] at HE HDH
        rw [hzl'] at HDL
        have HZL := Go.Lib.hid hzl'
        have HZH := Go.Lib.hid hzh'
        clear hzl' hzh'
        have hbw1 : base ≤ w0.heap.size := by omega
        have hbn : b ≠ w.heap.size := by omega
        have hbw0 : b < w0.heap.size := by omega
        have HC1 := Go.Lib.hid (show Calls Tryd.prog 81 #[.agg #[.int .i64 vars, .slice (some ⟨b, off, none⟩) len cap, .int .i64 root], .int .i64 x.lo, .slice da zs.length dc] w0.drew (OrdP base (.slice da zs.length dc) zl w0) from by have := IH.out x.lo zs _ w0.drew HN0.out hbw1 HO0.out l0 (by omega) (by omega) HD.out; rw [HZL.out] at this; exact this.mono (fun e w' h => h.drew))
        go_upto_region 8 with fail
        refine code_gen (R := fun wb => w0 = wb) rfl ?_
        rintro _ rfl
        go_cut [2] (fun s2 wx => ∃ v1, s2 = v1 ∧ wx.ownsInts base 3 .i64 v1 zl ∧ w0.grownBy wx (Value.ownBlock (.slice da zs.length dc)) ∧ (v1.ownBlock = Value.ownBlock (.slice da zs.length dc) ∨ ∀ y, v1.ownBlock = some y → w0.heap.size ≤ y))
        case first =>
          have hbox1 : ∀ w', w0.grownBy w' (Value.ownBlock (.slice da zs.length dc)) → w'.cell? ⟨w.heap.size, 0, none⟩ = some (.int .i64 vars) ∧ w'.cell? ⟨w.heap.size, 1, none⟩ = some (.slice (some ⟨b, off, none⟩) len cap) ∧ w'.cell? ⟨w.heap.size, 2, none⟩ = some (.int .i64 root) ∧ w'.cell? ⟨b, off + q * 3 + 1, none⟩ = some (.int .i64 x.lo) := fun w' hg => ⟨grown_cell hg hw0 (fun e => by have := HDB.out _ e; omega) x0, grown_cell hg hw0 (fun e => by have := HDB.out _ e; omega) x1, grown_cell hg hw0 (fun e => by have := HDB.out _ e; omega) x2, grown_cell hg hbw0 (fun e => by have := HDB.out _ e; omega) c1⟩
          have HBX := Go.Lib.hid hbox1
          clear hbox1 x0 x1 x2 c0 c1 c2
          have hwr : IntKind.i64.wrap (q : Int) = (q : Int) := IntWalk.i64_in _ (by omega)
          have hq0 : (0 : Int) ≤ q := by omega
          have hqn : ((q : Int)).toNat = q := by omega
          have hS : (fun w' : World => w'.cell? ⟨w.heap.size, 0, none⟩ = some (.int .i64 vars) ∧ w'.cell? ⟨w.heap.size, 1, none⟩ = some (.slice (some ⟨b, off, none⟩) len cap) ∧ w'.cell? ⟨w.heap.size, 2, none⟩ = some (.int .i64 root) ∧ w'.cell? ⟨b, off + q * 3 + 1, none⟩ = some (.int .i64 x.lo)) w0 := HBX.out w0 (World.grownBy.refl _ _)
          refine wp_region_held_drew (S := (fun w' => w'.cell? ⟨w.heap.size, 0, none⟩ = some (.int .i64 vars) ∧ w'.cell? ⟨w.heap.size, 1, none⟩ = some (.slice (some ⟨b, off, none⟩) len cap) ∧ w'.cell? ⟨w.heap.size, 2, none⟩ = some (.int .i64 root) ∧ w'.cell? ⟨b, off + q * 3 + 1, none⟩ = some (.int .i64 x.lo))) (by kernel_rfl) ?_ (fun hHeld => ?_)
          · first | exact hS | exact HBX.out _ ‹_›
          refine tL 0 (some 24) ?_
          refine tL 1 (some 25) ?_
          refine tL 2 (some 26) ?_
          refine tL 3 (some 27) ?_
          refine tL 4 (some 28) ?_
          refine tL 5 (some 29) ?_
          refine tL 6 (some 30) ?_
          refine tL 7 (some 31) ?_
          refine tL 8 (some 32) ?_
          refine wpAnyH_ready (rs := [9]) (by kernel_rfl) (by simp) ?_
          refine AllReadyH.cons (o := _) rfl (fun K hK => ?_) AllReadyH.nil
          go_simp
          refine HC1.out.mono ?_
          rintro e w' ⟨v1, rfl, ho1, hg1, hv1⟩
          (try go_wp2_with fail)
          (try clear hHeld)
          refine hK.out _ _ ?_ (fun hHeld => ?_)
          · first | exact hS | exact HBX.out _ ‹_›
          clear hK K
          (try simp only [Act.put, List.setIfInBounds_toArray, List.set_cons_zero, List.set_cons_succ])
          refine tL 10 (some 2) ?_
          refine wpAnyH_done (by kernel_rfl) ?_ _
          go_wp2_with fail
          go_meet
          exact ⟨_, rfl, ho1, hg1, hv1⟩
        case rest =>
          obtain ⟨v1, rfl, ho1, hg1, hv1⟩ := hcut
          obtain ⟨a1, c1', rfl, -⟩ := own_form ho1
          have HO1 := Go.Lib.hid ho1
          have HG1 := Go.Lib.hid hg1
          have HV1 := Go.Lib.hid hv1
          have hkx := HX0.out.grown hg1 (fun e => by have := HDB.out _ e; omega)
          have d0 := cell_of_block (i := 0) hkx (v := .int .i64 vars) rfl
          have d1 := cell_of_block (i := 1) hkx (v := .slice (some ⟨b, off, none⟩) len cap) rfl
          have d2 := cell_of_block (i := 2) hkx (v := .int .i64 root) rfl
          have d3 := grown_cell hg1 hbw0 (fun e => by have := HDB.out _ e; omega) c2
          have hsz1 := hg1.size
          have HBW := Go.Lib.hid (grown_below' (B := B) hg1 (by omega) (fun y hy => by have := HDB.out _ hy; omega))
          have HN1 := Go.Lib.hid (HN0.out.below HBW.out)
          have HB1 := Go.Lib.hid (show ∀ y, Value.ownBlock (.slice a1 zl.length c1') = some y → base ≤ y ∧ y < wc.heap.size ∧ y ≠ w.heap.size from fun y hy => ⟨(HO1.out.1.lt y hy).1, (HO1.out.1.lt y hy).2, fun e => by
            rcases HV1.out with h | h
            · rw [h] at hy; have := HDB.out _ hy; omega
            · have := h y hy; omega⟩)
          clear ho1 hg1 hv1 hkx x0 x1 x2 c0 c1 c2
          have HC2 := Go.Lib.hid (show Calls Tryd.prog 81 #[.agg #[.int .i64 vars, .slice (some ⟨b, off, none⟩) len cap, .int .i64 root], .int .i64 x.hi, .slice a1 zl.length c1'] wc.drew (OrdP base (.slice a1 zl.length c1') zh wc) from by have := IH.out x.hi zl _ wc.drew HN1.out (by show base ≤ wc.heap.size; omega) HO1.out g0 (by omega) (by omega) HDL.out; rw [HZH.out] at this; exact this.mono (fun e w' h => h.drew))
          have hbox2 : ∀ w', wc.grownBy w' (Value.ownBlock (.slice a1 zl.length c1')) → w'.cell? ⟨w.heap.size, 0, none⟩ = some (.int .i64 vars) ∧ w'.cell? ⟨w.heap.size, 1, none⟩ = some (.slice (some ⟨b, off, none⟩) len cap) ∧ w'.cell? ⟨w.heap.size, 2, none⟩ = some (.int .i64 root) ∧ w'.cell? ⟨b, off + q * 3 + 2, none⟩ = some (.int .i64 x.hi) := fun w' hg => ⟨grown_cell hg (by omega) (fun e => by have := HB1.out _ e; omega) d0, grown_cell hg (by omega) (fun e => by have := HB1.out _ e; omega) d1, grown_cell hg (by omega) (fun e => by have := HB1.out _ e; omega) d2, grown_cell hg (by omega) (fun e => by have := HB1.out _ e; omega) d3⟩
          have HBX := Go.Lib.hid hbox2
          clear hbox2 d0 d1 d2 d3
          have hwr : IntKind.i64.wrap (q : Int) = (q : Int) := IntWalk.i64_in _ (by omega)
          have hq0 : (0 : Int) ≤ q := by omega
          have hqn : ((q : Int)).toNat = q := by omega
          have hS : (fun w' : World => w'.cell? ⟨w.heap.size, 0, none⟩ = some (.int .i64 vars) ∧ w'.cell? ⟨w.heap.size, 1, none⟩ = some (.slice (some ⟨b, off, none⟩) len cap) ∧ w'.cell? ⟨w.heap.size, 2, none⟩ = some (.int .i64 root) ∧ w'.cell? ⟨b, off + q * 3 + 2, none⟩ = some (.int .i64 x.hi)) wc := HBX.out wc (World.grownBy.refl _ _)
          go_upto_region 9 with fail
          refine wp_region_held_drew (S := (fun w' => w'.cell? ⟨w.heap.size, 0, none⟩ = some (.int .i64 vars) ∧ w'.cell? ⟨w.heap.size, 1, none⟩ = some (.slice (some ⟨b, off, none⟩) len cap) ∧ w'.cell? ⟨w.heap.size, 2, none⟩ = some (.int .i64 root) ∧ w'.cell? ⟨b, off + q * 3 + 2, none⟩ = some (.int .i64 x.hi))) (by kernel_rfl) ?_ (fun hHeld => ?_)
          · first | exact hS | exact HBX.out _ ‹_›
          refine tL 0 (some 34) ?_
          refine tL 1 (some 35) ?_
          refine tL 2 (some 36) ?_
          refine tL 3 (some 37) ?_
          refine tL 4 (some 38) ?_
          refine tL 5 (some 39) ?_
          refine tL 6 (some 40) ?_
          refine tL 7 (some 41) ?_
          refine tL 8 (some 42) ?_
          refine wpAnyH_ready (rs := [9]) (by kernel_rfl) (by simp) ?_
          refine AllReadyH.cons (o := _) rfl (fun K hK => ?_) AllReadyH.nil
          go_simp
          refine HC2.out.mono ?_
          rintro e w2 ⟨v2, rfl, ho2, hg2, hv2⟩
          (try go_wp2_with fail)
          (try clear hHeld)
          refine hK.out _ _ ?_ (fun hHeld => ?_)
          · first | exact hS | exact HBX.out _ ‹_›
          clear hK K
          (try simp only [Act.put, List.setIfInBounds_toArray, List.set_cons_zero, List.set_cons_succ])
          refine tL 10 (some 2) ?_
          refine wpAnyH_done (by kernel_rfl) ?_ _
          clear hHeld hS
          obtain ⟨a2, c2', rfl, -⟩ := own_form ho2
          have HO2 := Go.Lib.hid ho2
          have HG2 := Go.Lib.hid (grown_two HG1.out hg2 HV1.out)
          have HV2 := Go.Lib.hid (own_two HG1.out.size HV1.out hv2)
          have hzh : zh.length ≤ len := HDH.out.len
          have hsz2 := hg2.size
          clear ho2 hg2 hv2
          go_wp2_with (first | (at_builtin; refine wpList_append_own_at _ rfl _ _ 43 rfl base 3 i1 (.int .i64 0) 1 8 Tryd.underlying43 HI1.out HZ01.out HZ11.out HZ21.out rfl (by decide) _ _ _ rfl (HO2.out.1.alloc _) ⟨w2.heap.size, 0, none⟩ 1 1 [.int .i64 ((q : Int) + 2)] rfl rfl (cell_one_new _ _ _) (ints_oneCell .i64 [(q : Int) + 2]) (by unfold maxLen; omega) (by omega) (by simp; omega) ?_; intro v' w4 hown' hgrow' hnil hloc) | go_in)
          go_ret
          have hg4 := (World.grownBy_alloc w2 _ _).trans hgrow'
          have hv4 := own_two HG2.out.size HV2.out (hloc.imp id (fun e y hy => by rw [e] at hy; injection hy with hy; have := alloc_ltS w2 (.cells #[.int .i64 ((q : Int) + 2)] 3); omega))
          exact ⟨_, rfl, by rw [HE.out]; exact HO2.out.appended hown' (WalkArith.wf_i64 (by omega)), (show w.grownBy w0 _ from ⟨HX0.out.bel.os, HX0.out.bel.tape, HX0.out.bel.output, HX0.out.bel.size, fun b hb _ => HX0.out.bel.block b hb⟩).trans (grown_two HG2.out hg4 HV2.out), hv4.imp id (fun h y hy => by have := h y hy; omega)⟩
end Go.Proofs.YthdofdglbdfkkaaDoor
