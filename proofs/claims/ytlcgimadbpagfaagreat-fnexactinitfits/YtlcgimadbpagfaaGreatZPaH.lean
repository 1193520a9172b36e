/-
  Parts: PaH, shortened.
-/
import Derived.Test.YtlcgimadbpagfaaGreatZModP
namespace Go.Proofs.YtlcgimadbpagfaaGreat
open Go.Lib
open Go.ChangeShapes Go.WideShapes Go.ChangeAt Go.RowKit
set_option linter.unusedVariables false
set_option maxRecDepth 100000
structure VR where
 a : Option Addr
 len : Nat
 cap : Nat
 zs : List Int
instance : Inhabited VR := ⟨⟨none, 0, 0, []⟩⟩
def VR.cells (v : VR) : List Value := [.slice v.a v.len v.cap]
def VR.lies (B : Nat) (w : World) (v : VR) : Prop := IntsAt B w v.a v.len v.cap v.zs
def ValuesAt (B : Nat) (w : World) (a : Option Addr) (len cap : Nat) (vs : List VR) : Prop := RowsAt VR.cells (VR.lies B w) 1 B w a len cap vs
def ValsAt (B : Nat) (w : World) (a : Option Addr) (len cap : Nat) (zss : List (List Int)) : Prop := ∃ vs : List VR, vs.map VR.zs = zss ∧ ValuesAt B w a len cap vs
theorem ValuesAt.below {B : Nat} {w w' : World} {a : Option Addr} {len cap : Nat} {vs : List VR} (h : ValuesAt B w a len cap vs) (hb : Below B w w') : ValuesAt B w' a len cap vs := by
 obtain ⟨h1, h2, h3, h4, h5, h6⟩ := h
 refine ⟨h1, h2, h3, fun x hx => RowsAt.below (h4 x hx) hb, h5, ?_⟩
 rcases h6 with h6 | ⟨b, off, e, hlt, hc⟩
 ·exact .inl h6
 ·exact .inr ⟨b, off, e, hlt, fun i hi j hj => (hb.cell (p := ⟨b, off + i * 1 + j, none⟩) hlt).trans (hc i hi j hj)⟩
theorem ValuesAt.mono {B B' : Nat} {w : World} {a : Option Addr} {len cap : Nat} {vs : List VR} (h : ValuesAt B w a len cap vs) (hB : B ≤ B') : ValuesAt B' w a len cap vs := by
 obtain ⟨h1, h2, h3, h4, h5, h6⟩ := h
 refine ⟨h1, h2, h3, fun x hx => RowsAt.mono (h4 x hx) hB, h5, ?_⟩
 rcases h6 with h6 | ⟨b, off, e, hlt, hc⟩
 ·exact .inl h6
 ·exact .inr ⟨b, off, e, Nat.lt_of_lt_of_le hlt hB, hc⟩
theorem ValsAt.below {B : Nat} {w w' : World} {a : Option Addr} {len cap : Nat} {zss : List (List Int)} (h : ValsAt B w a len cap zss) (hb : Below B w w') : ValsAt B w' a len cap zss := by
 obtain ⟨vs, h1, h2⟩ := h
 exact ⟨vs, h1, h2.below hb⟩
theorem ValsAt.mono {B B' : Nat} {w : World} {a : Option Addr} {len cap : Nat} {zss : List (List Int)} (h : ValsAt B w a len cap zss) (hB : B ≤ B') : ValsAt B' w a len cap zss := by
 obtain ⟨vs, h1, h2⟩ := h
 exact ⟨vs, h1, h2.mono hB⟩
theorem ValsAt.length {B : Nat} {w : World} {a : Option Addr} {len cap : Nat} {zss : List (List Int)} (h : ValsAt B w a len cap zss) : zss.length = len := by
 obtain ⟨vs, rfl, h2⟩ := h
 rw [List.length_map]; exact h2.1
theorem ValsAt.le {B : Nat} {w : World} {a : Option Addr} {len cap : Nat} {zss : List (List Int)} (h : ValsAt B w a len cap zss) : len ≤ maxLen := by
 obtain ⟨vs, _, h2⟩ := h
 exact Nat.le_trans h2.2.1 h2.2.2.1
theorem val_at {B : Nat} {w : World} {a : Option Addr} {len cap k : Nat} {zss : List (List Int)} (h : ValsAt B w a len cap zss) (hk : k < len) :
  ∃ (a' : Option Addr) (l' c' b off : Nat), a = some ⟨b, off, none⟩ ∧ b < B ∧ w.cell? ⟨b, off + k, none⟩ = some (.slice a' l' c') ∧ IntsAt B w a' l' c' (zss.getD k []) := by
 obtain ⟨vs, rfl, h1, h2, h3, h4, h5, h6⟩ := h
 have hk' : k < vs.length := by omega
 rcases h6 with h6 | ⟨b, off, e, hlt, hc⟩
 ·omega
 ·refine ⟨vs[k].a, vs[k].len, vs[k].cap, b, off, e, hlt, ?_, ?_⟩
  ·have := hc k hk' 0 (by decide)
   simpa [VR.cells] using this
  ·have e1 : (vs.map VR.zs).getD k [] = vs[k].zs := by simp [List.getD, hk']
   rw [e1]
   exact h4 _ (List.getElem_mem ..)
section
variable {H : Type} {enc : TypeId × Value → H} {w : World}
theorem open_value {fuel : Nat} {cs : List Value} {x : DataW H × List MemPlace} (h : DataW.trod enc Tryz.prog w 0 (fun _ => true) true fuel 66 cs = some x) : ∃ v : VR, cs = v.cells ∧ v.lies w.heap.size w := by
 obtain ⟨xs, n, _, rfl, hl, hlen, hf⟩ := DataW.trod_struct Tryz.underlying66 h
 have hc : Tryz.prog.cellsOf 66 = 1 := by kernel_rfl
 rw [hc] at hl
 have k1 : Tryz.prog.cellsOf 24 = 1 := by kernel_rfl
 match cs, hl, xs, hlen with
 | [c0], _, [y0], _ =>
  have f0 := hf 0 _ rfl
  simp [k1] at f0
  obtain ⟨s0, zs, e0, r0⟩ := open_rows (cells := intCells) (ok := fits) (c := 1) Tryz.underlying24 (by kernel_rfl) (fun h => open_int h) (fun nd => ⟨_, rfl⟩) (by decide) f0
  exact ⟨⟨s0.a, s0.len, s0.cap, zs⟩, e0, r0⟩
theorem open_values {v : Value} {d : DataW H} {p : List MemPlace} {b0 : Nat} (hv : Value.okWide Tryz.prog w .any b0 27 v) (h : DataW.Trod enc Tryz.prog w 0 (fun _ => true) true 27 v d p) :
  ∃ a len cap zss, v = .slice a len cap ∧ ValsAt w.heap.size w a len cap zss := by
 obtain ⟨a, len, cap, rfl⟩ := okWide_slice Tryz.underlying27 hv
 obtain ⟨fuel, h⟩ := h
 simp only [Value.cells] at h
 obtain ⟨s, vs, e, r⟩ := open_rows (cells := VR.cells) (ok := VR.lies w.heap.size w) (c := 1) Tryz.underlying27 (by kernel_rfl) (fun h => open_value h) (fun nd => ⟨_, rfl⟩) (by decide) h
 simp at e
 obtain ⟨rfl, rfl, rfl⟩ := e
 exact ⟨_, _, _, _, rfl, vs, rfl, r⟩
end
end Go.Proofs.YtlcgimadbpagfaaGreat
namespace Go.Proofs.YtlcgimadbpagfaaGreat
open Go.Lib
open Go.ChangeShapes Go.WideShapes Go.ChangeAt Go.RowKit
set_option linter.unusedVariables false
set_option maxRecDepth 100000
theorem c_szValue {B : Nat} {a : Option Addr} {len cap : Nat} {zs : List Int} (left : Int) (hl0 : 0 ≤ left) (hl1 : left ≤ 1048576) (w : World) (hB : B ≤ w.heap.size) (h : IntsAt B w a len cap zs) :
  Calls Tryz.prog 41 #[.agg #[.slice a len cap], .int .i64 left] w (SzP len left w) := by
 have HN := hid h
 clear h
 go_enter Tryz.func41, Tryz.ntmps41
 go_upto_region 1 with fail
 refine code_gen (R := fun wb => wb.cell? ⟨w.heap.size, 0, none⟩ = some (.slice a len cap) ∧ Below w.heap.size w wb) ⟨by simp, by go_grown⟩ ?_
 rintro w0 ⟨x0, hB0⟩
 have HB := hid hB0
 have HN0 := hid (HN.out.below (hB0.mono hB))
 clear hB0 HN
 go_wp2_with fail
 refine (c_szIntS left hl0 hl1 w0 HN0.out).mono ?_
 rintro e w1 ⟨r, rfl, h1, h2, h3, hq⟩
 have HE := hid (HB.out.trans (hq.mono HB.out.size))
 have H3 := hid h3
 clear hq x0 h3
 by_cases hn : r < 0
 ·go_wp2_with fail
  go_ret
  exact ⟨_, rfl, by omega, by omega, by omega, HE.out⟩
 ·go_wp2_with fail
  go_ret
  exact ⟨_, rfl, by omega, by omega, H3.out, HE.out⟩
def SzV (zss : List (List Int)) (left : Int) (w : World) (e : Ending) (w' : World) : Prop := ∃ r, e = .returned (.int .i64 r) ∧ -1 ≤ r ∧ r ≤ left ∧ (0 ≤ r → (zss.length : Int) ≤ left ∧ ∀ k, k < zss.length → ((zss.getD k []).length : Int) ≤ left) ∧ Below w.heap.size w w'
set_option maxHeartbeats 4000000 in
theorem c_szValueS {B : Nat} {a : Option Addr} {len cap : Nat} {zss : List (List Int)} (left : Int) (hl0 : 0 ≤ left) (hl1 : left ≤ 1048576) (w : World) (hB : B ≤ w.heap.size) (h : ValsAt B w a len cap zss) :
  Calls Tryz.prog 10 #[.slice a len cap, .int .i64 left] w (SzV zss left w) := by
 have hm : len ≤ maxLen := h.le
 unfold maxLen at hm
 have hlen := h.length
 have hw : wrap64 (left - len) = left - len := IntWalk.wrap64_in _ (by omega)
 have HN := hid h
 clear h
 by_cases hneg : left - len < 0
 ·go_enter Tryz.func10, Tryz.ntmps10
  go_wp2
  go_ret
  exact ⟨_, rfl, by omega, by omega, by omega, Below.refl _ _⟩
 ·go_enter Tryz.func10, Tryz.ntmps10
  go_wp2
  go_loopw [1, 5] (fun l i wr => ∃ (k : Nat) (r : Int), k ≤ len ∧ i = .int .i64 k ∧ l = .int .i64 r ∧ 0 ≤ r ∧ r ≤ left ∧ (∀ j, j < k → ((zss.getD j []).length : Int) ≤ left) ∧ Below w.heap.size w wr) (fun _ i _ => len - (intOf i).toNat)
  case atStart => exact ⟨0, left - len, by omega, rfl, by first | rfl | simp, by omega, by omega, fun j hj => by omega, Below.refl _ _⟩
  case round =>
   obtain ⟨k, r, hk, rfl, rfl, hr0, hr1, hall, hBk⟩ := hrel
   have HA := hid hall
   clear hall
   by_cases hlt : k < len
   ·have hki : (k : Int) < len := by omega
    obtain ⟨a', l', c', b, off, rfl, hbB, c0, hz⟩ := val_at (HN.out.below (hBk.mono hB)) hlt
    have HB := hid hBk
    have HZ := hid hz
    have hzl := hz.1
    have hB' : B ≤ wr.heap.size := Nat.le_trans hB hBk.size
    clear hz hBk
    go_wp2_with fail
    refine (c_szValue r hr0 (by omega) wr hB' HZ.out).mono ?_
    rintro e w1 ⟨r1, rfl, h1, h2, h3, hq⟩
    have HE := hid (HB.out.trans (hq.mono HB.out.size))
    have H3 := hid h3
    clear hq c0 h3
    by_cases hn : r1 < 0
    ·go_wp2_with fail
     go_ret
     exact ⟨_, rfl, by omega, by omega, by omega, HE.out⟩
    ·go_wp2_with fail
     go_roundw
     case rel => exact ⟨k + 1, r1, by omega, by go_num, rfl, by omega, by omega, fun j hj => by
      by_cases e : j = k
      ·subst e; have := H3.out (by omega); omega
      ·exact HA.out j (by omega), HE.out⟩
     case measure => simp [intOf] <;> omega
   ·have hki : ¬ (k : Int) < len := by omega
    obtain rfl : k = len := by omega
    go_wp2_with fail
    go_ret
    exact ⟨_, rfl, by omega, by omega, fun _ => ⟨by omega, fun j hj => HA.out j (by omega)⟩, hBk⟩
theorem c_eqValue {B : Nat} {a a' : Option Addr} {len cap cap' : Nat} {zs : List Int} (w : World) (hB : B ≤ w.heap.size) (h : IntsAt B w a len cap zs) (h' : IntsAt B w a' len cap' zs) :
  Calls Tryz.prog 50 #[.agg #[.slice a len cap], .agg #[.slice a' len cap']] w fun e w' => e = .returned (.bool true) ∧ Below w.heap.size w w' := by
 have HN := hid h
 have HN' := hid h'
 clear h h'
 go_enter Tryz.func50, Tryz.ntmps50
 go_upto_region 1 with fail
 refine code_gen (R := fun wb => wb.cell? ⟨w.heap.size, 0, none⟩ = some (.slice a len cap) ∧ wb.cell? ⟨w.heap.size + 1, 0, none⟩ = some (.slice a' len cap') ∧ Below w.heap.size w wb) ⟨by simp, by simp, by go_grown⟩ ?_
 rintro w0 ⟨x0, x1, hB0⟩
 have HB := hid hB0
 have HN0 := hid (HN.out.below (hB0.mono hB))
 have HN1 := hid (HN'.out.below (hB0.mono hB))
 have hB1 : B ≤ w0.heap.size := Nat.le_trans hB hB0.size
 clear hB0 HN HN'
 go_wp2_with fail
 refine (c_eqIntS (B := w0.heap.size) w0 (Nat.le_refl _) (HN0.out.mono hB1) (HN1.out.mono hB1)).mono ?_
 rintro e w1 ⟨rfl, hq⟩
 have HE := hid (HB.out.trans (hq.mono HB.out.size))
 clear hq x0 x1
 go_wp2_with fail
 go_ret
 exact ⟨rfl, HE.out⟩
theorem vals_same {B : Nat} {w : World} {a a' : Option Addr} {len len' cap cap' k : Nat} {zss : List (List Int)} (h : ValsAt B w a len cap zss) (h' : ValsAt B w a' len' cap' zss) (hk : k < len) :
  ∃ (a1 a2 : Option Addr) (l1 c1 c2 b b' off off' : Nat), a = some ⟨b, off, none⟩ ∧ a' = some ⟨b', off', none⟩ ∧ w.cell? ⟨b, off + k, none⟩ = some (.slice a1 l1 c1) ∧ w.cell? ⟨b', off' + k, none⟩ = some (.slice a2 l1 c2) ∧ IntsAt B w a1 l1 c1 (zss.getD k []) ∧ IntsAt B w a2 l1 c2 (zss.getD k []) := by
 have e := h.length
 have e' := h'.length
 obtain ⟨a1, l1, c1, b, off, rfl, -, hc, hz⟩ := val_at h hk
 obtain ⟨a2, l2, c2, b', off', rfl, -, hc', hz'⟩ := val_at h' (show k < len' by omega)
 have e1 := hz.1
 have e2 := hz'.1
 obtain rfl : l1 = l2 := by omega
 exact ⟨a1, a2, l1, c1, c2, b, b', off, off', rfl, rfl, hc, hc', hz, hz'⟩
set_option maxHeartbeats 4000000 in
theorem c_eqValueS {B : Nat} {a a' : Option Addr} {len cap cap' : Nat} {zss : List (List Int)} (w : World) (hB : B ≤ w.heap.size) (h : ValsAt B w a len cap zss) (h' : ValsAt B w a' len cap' zss) :
  Calls Tryz.prog 15 #[.slice a len cap, .slice a' len cap'] w fun e w' => e = .returned (.bool true) ∧ Below w.heap.size w w' := by
 have hm : len ≤ maxLen := h.le
 unfold maxLen at hm
 have HN := hid h
 have HN' := hid h'
 clear h h'
 go_enter Tryz.func15, Tryz.ntmps15
 go_wp2
 go_loopw [5] (fun i wr => ∃ k : Nat, k ≤ len ∧ i = .int .i64 k ∧ Below w.heap.size w wr) (fun i _ => len - (intOf i).toNat)
 case atStart => exact ⟨0, by omega, rfl, Below.refl _ _⟩
 case round =>
  obtain ⟨k, hk, rfl, hBk⟩ := hrel
  by_cases hlt : k < len
  ·have hki : (k : Int) < len := by omega
   obtain ⟨a1, a2, l1, p1, p2, b, b', off, off', rfl, rfl, c0, d0, hz, hz'⟩ := vals_same (HN.out.below (hBk.mono hB)) (HN'.out.below (hBk.mono hB)) hlt
   have HB := hid hBk
   have HZ := hid hz
   have HZ' := hid hz'
   have hB' : B ≤ wr.heap.size := Nat.le_trans hB hBk.size
   clear hz hz' hBk
   go_wp2_with fail
   go_region_with (first | (go_at_call 50; refine (c_eqValue (B := B) _ (by first | exact hB' | exact Nat.le_trans hB' (by go_size)) (HZ.out.below (by go_grown)) (HZ'.out.below (by go_grown))).mono ?_; rintro e w1 ⟨rfl, hB1⟩))
   all_goals
    have hB2 := hid (HB.out.trans (below_undrawn HB.out.size hB1))
    clear c0 d0 hB1
    go_wp2
    go_roundw
    case rel => exact ⟨k + 1, by omega, by go_num, hB2.out⟩
    case measure => simp [intOf]; omega
  ·have hki : ¬ (k : Int) < len := by omega
   go_wp2
   go_ret
   exact ⟨rfl, hBk⟩
end Go.Proofs.YtlcgimadbpagfaaGreat
namespace Go.Proofs.YtlcgimadbpagfaaGreat
open Go.Lib
open Go.ChangeShapes Go.WideShapes Go.ChangeAt Go.RowKit
set_option linter.unusedVariables false
set_option maxRecDepth 100000
theorem valueInfo : (Tryz.prog.info? 69).map (fun i => (i.zero, i.size, i.bytes)) = some (some (.agg #[.slice none 0 0]), 1, 24) := by kernel_rfl
theorem RowsAt.heap {α : Type} {cells : α → List Value} {ok : α → Prop} {c : Nat} {wa wb : World} {g len cap : Nat} {ns : List α} (h : RowsAt cells ok c wa.heap.size wa (some ⟨g, 0, none⟩) len cap ns) (e1 : wb.heap[g]? = wa.heap[g]?) (hs : wa.heap.size ≤ wb.heap.size) : RowsAt cells ok c wb.heap.size wb (some ⟨g, 0, none⟩) len cap ns := by
 obtain ⟨h1, h2, h3, h4, h5, h6⟩ := h
 refine ⟨h1, h2, h3, h4, h5, ?_⟩
 rcases h6 with h6 | ⟨b, off, e, hlt, hc⟩
 ·exact .inl h6
 ·simp only [Option.some.injEq, Addr.mk.injEq, and_true] at e
  obtain ⟨rfl, rfl⟩ := e
  exact .inr ⟨g, 0, rfl, Nat.lt_of_lt_of_le hlt hs, fun i hi j hj => (World.cell?_of_block (w := wa) (w' := wb) (a := ⟨g, 0 + i * c + j, none⟩) e1).trans (hc i hi j hj)⟩
theorem Room.heap {wa wb : World} {g m : Nat} (h : Room wa g m) (e : wb.heap[g]? = wa.heap[g]?) (hs : wa.heap.size ≤ wb.heap.size) : Room wb g m := by
 refine ⟨Nat.lt_of_lt_of_le h.1 hs, fun j hj => ?_⟩
 rw [World.cell?_of_block (w := wa) (w' := wb) (a := ⟨g, 0 + j, none⟩) e, World.frozen?_of_block (w := wa) (w' := wb) (a := ⟨g, 0 + j, none⟩) e]
 exact h.2 j hj
structure OwnZ (w : World) (x : Nat) (zs : List Int) : Prop where
 room : Room w x zs.length
 at_ : IntsAt w.heap.size w (some ⟨x, 0, none⟩) zs.length zs.length zs
theorem OwnZ.heap {wa wb : World} {x : Nat} {zs : List Int} (h : OwnZ wa x zs) (e : wb.heap[x]? = wa.heap[x]?) (hs : wa.heap.size ≤ wb.heap.size) : OwnZ wb x zs := ⟨h.room.heap e hs, h.at_.heap e hs⟩
theorem OwnZ.below {wa wb : World} {x : Nat} {zs : List Int} (h : OwnZ wa x zs) (hb : Below wa.heap.size wa wb) : OwnZ wb x zs := h.heap (hb.block _ h.room.1) hb.size
def OwnL (base : Nat) (w : World) (gs : List Nat) (zss : List (List Int)) : Prop :=
 gs.Pairwise (· < ·) ∧ ∀ j (h : j < gs.length), base ≤ gs[j] ∧ OwnZ w gs[j] (zss.getD j [])
theorem OwnL.heap {base : Nat} {wa wb : World} {gs : List Nat} {zss : List (List Int)} (h : OwnL base wa gs zss) (e : ∀ x, base ≤ x → x < wa.heap.size → x ∈ gs → wb.heap[x]? = wa.heap[x]?) (hs : wa.heap.size ≤ wb.heap.size) : OwnL base wb gs zss :=
 ⟨h.1, fun j hj => ⟨(h.2 j hj).1, (h.2 j hj).2.heap (e _ (h.2 j hj).1 (h.2 j hj).2.room.1 (List.getElem_mem ..)) hs⟩⟩
theorem OwnL.below {base : Nat} {wa wb : World} {gs : List Nat} {zss : List (List Int)} (h : OwnL base wa gs zss) (hb : Below wa.heap.size wa wb) : OwnL base wb gs zss := h.heap (fun x _ hx _ => hb.block _ hx) hb.size
theorem OwnL.nil (base : Nat) (w : World) (zss : List (List Int)) : OwnL base w [] zss := ⟨List.Pairwise.nil, fun j hj => by simp at hj⟩
theorem OwnL.lt {base : Nat} {w : World} {gs : List Nat} {zss : List (List Int)} (h : OwnL base w gs zss) {x : Nat} (hx : x ∈ gs) : base ≤ x ∧ x < w.heap.size := by
 obtain ⟨j, hj, rfl⟩ := List.getElem_of_mem hx
 exact ⟨(h.2 j hj).1, (h.2 j hj).2.room.1⟩
theorem OwnL.snoc {base : Nat} {w : World} {gs : List Nat} {zss : List (List Int)} {x : Nat} (h : OwnL base w gs zss) (hx : ∀ y ∈ gs, y < x) (hb : base ≤ x) (hz : OwnZ w x (zss.getD gs.length [])) : OwnL base w (gs ++ [x]) zss := by
 refine ⟨List.pairwise_append.2 ⟨h.1, List.pairwise_singleton .., fun a ha b hb' => by simp at hb'; subst hb'; exact hx a ha⟩, fun j hj => ?_⟩
 by_cases e : j < gs.length
 ·rw [List.getElem_append_left e]; exact h.2 j e
 ·simp at hj
  obtain rfl : j = gs.length := by omega
  simpa using ⟨hb, hz⟩
def hdr (gs : List Nat) (zss : List (List Int)) (j : Nat) : Value := .slice (some ⟨gs.getD j 0, 0, none⟩) (zss.getD j []).length (zss.getD j []).length
theorem hdr_snoc {gs : List Nat} {zss : List (List Int)} {j x : Nat} (h : j < gs.length) : hdr (gs ++ [x]) zss j = hdr gs zss j := by
 unfold hdr; simp only [List.getD, List.getElem?_append_left h]
theorem hdr_last {gs : List Nat} {zss : List (List Int)} {x : Nat} : hdr (gs ++ [x]) zss gs.length = .slice (some ⟨x, 0, none⟩) (zss.getD gs.length []).length (zss.getD gs.length []).length := by
 unfold hdr; simp only [List.getD, List.getElem?_append_right (Nat.le_refl _), Nat.sub_self]; rfl
structure OwnV (base : Nat) (w : World) (g : Nat) (gs : List Nat) (zss : List (List Int)) : Prop where
 len : gs.length = zss.length
 L : OwnL base w gs zss
 ne : g ∉ gs
 lt : g < w.heap.size
 hd : ∀ j, j < zss.length → w.cell? ⟨g, j, none⟩ = some (hdr gs zss j)
theorem OwnV.vals {base : Nat} {w : World} {g : Nat} {gs : List Nat} {zss : List (List Int)} {cap : Nat} (h : OwnV base w g gs zss) (h1 : zss.length ≤ cap) (h2 : cap ≤ maxLen) : ValsAt w.heap.size w (some ⟨g, 0, none⟩) zss.length cap zss := by
 refine ⟨(List.range zss.length).map (fun j => ⟨some ⟨gs.getD j 0, 0, none⟩, (zss.getD j []).length, (zss.getD j []).length, zss.getD j []⟩), ?_, by simp, h1, h2, ?_, fun e => by simp at e, .inr ⟨g, 0, rfl, h.lt, ?_⟩⟩
 ·apply List.ext_getElem (by simp)
  intro i h1 h2
  simp at h1
  simp [List.getD, h1]
 ·intro v hv
  simp only [List.mem_map, List.mem_range] at hv
  obtain ⟨j, hj, rfl⟩ := hv
  have hj' : j < gs.length := by rw [h.len]; exact hj
  have := (h.L.2 j hj').2.at_
  simpa [VR.lies, List.getD, hj'] using this
 ·intro i hi j hj
  obtain rfl : j = 0 := by omega
  simp at hi
  have := h.hd i hi
  simpa [VR.cells, hdr] using this
theorem OwnV.below {base : Nat} {wa wb : World} {g : Nat} {gs : List Nat} {zss : List (List Int)} (h : OwnV base wa g gs zss) (hb : Below wa.heap.size wa wb) : OwnV base wb g gs zss :=
 ⟨h.len, h.L.below hb, h.ne, Nat.lt_of_lt_of_le h.lt hb.size, fun j hj => (hb.cell (p := ⟨g, j, none⟩) h.lt).trans (h.hd j hj)⟩
structure TV (A X : Value) (w wb : World) : Prop where
 b1 : wb.heap[w.heap.size]? = some (.cells #[A] 66 (0, 0))
 b2 : wb.heap[w.heap.size + 1]? = some (.cells #[.slice none 0 0] 69 (0, 0))
 b3 : wb.heap[w.heap.size + 2]? = some (.cells #[X] 69 (0, 0))
 B : Below w.heap.size w wb
theorem TV.lt {A X : Value} {w wb : World} (h : TV A X w wb) : w.heap.size + 2 < wb.heap.size := (Array.getElem?_eq_some_iff.1 h.b3).1
theorem TV.below {A X : Value} {w wb w' : World} (h : TV A X w wb) (hb : Below wb.heap.size wb w') : TV A X w w' :=
 have hl := h.lt
 ⟨(hb.block _ (by omega)).trans h.b1, (hb.block _ (by omega)).trans h.b2, (hb.block _ hl).trans h.b3, h.B.trans (hb.mono h.B.size)⟩
theorem TV.put {A X : Value} {w wb : World} (h : TV A X w wb) (v : Value) : TV A v w (wb.setCell ⟨w.heap.size + 2, 0, none⟩ v) :=
 ⟨(heap_setCell_other _ _ _ _ (by simp)).trans h.b1, (heap_setCell_other _ _ _ _ (by simp)).trans h.b2, heap_setCell_same _ _ _ _ _ _ h.b3, h.B.setCell (by simp) v⟩
theorem TV.start (A : Value) (w : World) : TV A (.slice none 0 0) w (((w.alloc (.cells #[A] 66)).alloc (.cells #[.slice none 0 0] 69)).alloc (.cells #[.slice none 0 0] 69)) := by
 refine ⟨?_, heap_alloc2_at _ _ _ _, ?_, by go_grown⟩
 ·rw [(MapKept.heap_alloc _ _).2 _ (Nat.lt_of_lt_of_le (alloc_ltS _ _) (Nat.le_of_lt (alloc_ltS _ _))), (MapKept.heap_alloc _ _).2 _ (alloc_ltS _ _)]
  exact (MapKept.heap_alloc _ _).1
 ·have e : w.heap.size + 2 = ((w.alloc (.cells #[A] 66)).alloc (.cells #[.slice none 0 0] 69)).heap.size := by show _ = ((w.heap.push _).push _).size; simp
  rw [e]
  exact (MapKept.heap_alloc _ _).1
def CopyZ (zs : List Int) (w : World) (e : Ending) (w' : World) : Prop :=
 ∃ g, e = .returned (.agg #[.slice (some ⟨g, 0, none⟩) zs.length zs.length]) ∧ w.heap.size ≤ g ∧ OwnZ w' g zs ∧ Below w.heap.size w w'
set_option maxHeartbeats 4000000 in
theorem c_toValue {B : Nat} {a : Option Addr} {len cap : Nat} {zs : List Int} (w : World) (hBw : B ≤ w.heap.size) (h : IntsAt B w a len cap zs) (k0 : len ≤ 1048576) :
  Calls Tryz.prog 47 #[.agg #[.slice a len cap]] w (CopyZ zs w) := by
 have hlen := h.1
 have HMA := hid h
 clear h
 go_enter Tryz.func47, Tryz.ntmps47
 go_upto_region 2 with fail
 refine code_gen (R := fun wb => TV (.slice a len cap) (.slice none 0 0) w wb) (TV.start _ _) ?_
 intro w0 ht
 have HT0 := hid ht
 clear ht
 have x := cell_of_block (i := 0) HT0.out.b1 (v := .slice a len cap) rfl
 go_wp2_with fail
 refine (c_toIntS (B := B) w0 (Nat.le_trans hBw HT0.out.B.size) (HMA.out.below (HT0.out.B.mono hBw)) k0).mono ?_
 rintro e v0 ⟨rfl, hr, hth, hB1⟩
 have HU := hid (HT0.out.below hB1)
 have HR0 := hid hr
 have HH0 := hid hth
 have HG0 := hid (show w.heap.size + 2 < w0.heap.size from HT0.out.lt)
 clear hr hth hB1 x
 have y := cell_of_block (i := 0) HU.out.b3 (v := .slice none 0 0) rfl
 have f := free_of_block (i := 0) HU.out.b3
 go_upto_region 3 with fail
 refine code_gen (R := fun wb => TV (.slice a len cap) (.slice (some ⟨w0.heap.size, 0, none⟩) len len) w wb ∧ Kp w.heap.size v0 wb) ⟨HU.out.put _, (Kp.refl _ _).set2 _ _⟩ ?_
 rintro w1 ⟨ht, hk⟩
 have HT1 := hid ht
 have HQ0 := hid hk
 clear ht hk y f HU
 have y0 := cell_of_block (i := 0) HT1.out.b3 (v := .slice (some ⟨w0.heap.size, 0, none⟩) len len) rfl
 have z0 := cell_of_block (i := 0) HT1.out.b2 (v := .slice none 0 0) rfl
 have f0 := free_of_block (i := 0) HT1.out.b2
 go_wp2
 have HE := hid (show Kp w.heap.size w1 (w1.setCell ⟨w.heap.size + 1, 0, none⟩ (.slice (some ⟨w0.heap.size, 0, none⟩) len len)) from (Kp.refl _ _).set1 _ _)
 have E0 := HQ0.out.trans HE.out
 have HB := hid (show Below w.heap.size w (w1.setCell ⟨w.heap.size + 1, 0, none⟩ (.slice (some ⟨w0.heap.size, 0, none⟩) len len)) from HT1.out.B.setCell (Nat.le_succ _) _)
 exact bodyPost_ret (v := .agg _) (results_cell_row rfl _ _ (w.heap.size + 1) 69 _ (0, 0) _ rfl (heap_setCell_same _ _ 0 _ _ (.slice (some ⟨w0.heap.size, 0, none⟩) len len) HT1.out.b2) Tryz.underlying69 rfl (by kernel_rfl)) rfl
  ⟨w0.heap.size, by subst hlen; rfl, Nat.le_of_lt (Nat.lt_of_le_of_lt (Nat.le_add_right _ 2) HG0.out), ⟨by have := HH0.out.kp E0 HG0.out; subst hlen; simpa using this, by have := RowsAt.kp (cells := intCells) (ok := fits) (c := 1) HR0.out E0 HG0.out; subst hlen; exact this⟩, HB.out⟩
def CopyV (zss : List (List Int)) (w : World) (e : Ending) (w' : World) : Prop :=
 e = .returned (.slice (some ⟨w.heap.size, 0, none⟩) zss.length zss.length) ∧ (∃ gs, OwnV w.heap.size w' w.heap.size gs zss) ∧ Room w' w.heap.size zss.length ∧ Below w.heap.size w w'
def CopiedV (zss : List (List Int)) (w : World) (i : Value) (wr : World) : Prop :=
 ∃ (j : Nat) (gs : List Nat), j ≤ zss.length ∧ i = .int .i64 j ∧ gs.length = j ∧ Room wr w.heap.size zss.length ∧ OwnL (w.heap.size + 1) wr gs zss ∧
  (∀ t, t < j → wr.cell? ⟨w.heap.size, t, none⟩ = some (hdr gs zss t)) ∧ Below w.heap.size w wr
theorem copiedV_next {zss : List (List Int)} {w w1 : World} {j x : Nat} {gs : List Nat} (hj : j < zss.length) (hl : gs.length = j) (hR : Room w1 w.heap.size zss.length) (hL : OwnL (w.heap.size + 1) w1 gs zss)
  (hh : ∀ t, t < j → w1.cell? ⟨w.heap.size, t, none⟩ = some (hdr gs zss t)) (hB : Below w.heap.size w w1) (hx : ∀ y ∈ gs, y < x) (hx1 : w.heap.size + 1 ≤ x) (hz : OwnZ w1 x (zss.getD j [])) :
  CopiedV zss w (.int .i64 ((j : Int) + 1)) (w1.setCell ⟨w.heap.size, j, none⟩ (.slice (some ⟨x, 0, none⟩) (zss.getD j []).length (zss.getD j []).length)) := by
 subst hl
 have hs : ∀ v, w1.heap.size ≤ (w1.setCell ⟨w.heap.size, gs.length, none⟩ v).heap.size := fun v => by simp
 refine ⟨gs.length + 1, gs ++ [x], hj, by go_num, by simp, ?_, ?_, ?_, hB.setCell (Nat.le_refl _) _⟩
 ·refine ⟨Nat.lt_of_lt_of_le hR.1 (hs _), ?_⟩
  have := World.there_setCells hR.2 w.heap.size gs.length [.slice (some ⟨x, 0, none⟩) (zss.getD gs.length []).length (zss.getD gs.length []).length]
  simpa [World.setCells] using this
 ·have hL' := hL.snoc (x := x) hx hx1 hz
  exact hL'.heap (fun y hy _ _ => heap_setCell_other _ _ _ _ (by show y ≠ w.heap.size; omega)) (hs _)
 ·intro t ht
  have hc := World.cell?_setCells_in w.heap.size [.slice (some ⟨x, 0, none⟩) (zss.getD gs.length []).length (zss.getD gs.length []).length] gs.length w1 (fun u hu => by have hu' : u < 1 := hu; have := hR.2 (gs.length + u) (by omega); simpa using this.1) 0 (by simp)
  by_cases e : t = gs.length
  ·subst e
   rw [hdr_last]
   simpa [World.setCells] using hc
  ·have hs := World.cell?_setCells_out w.heap.size [.slice (some ⟨x, 0, none⟩) (zss.getD gs.length []).length (zss.getD gs.length []).length] gs.length w1 ⟨w.heap.size, t, none⟩ (fun _ _ => .inl (by show t < gs.length; omega))
   rw [hdr_snoc (by omega)]
   have h2 := hh t (by omega)
   rw [← hs] at h2
   simpa [World.setCells] using h2
set_option maxHeartbeats 4000000 in
theorem c_toValueS {B : Nat} {a : Option Addr} {len cap : Nat} {zss : List (List Int)} (w : World) (hBw : B ≤ w.heap.size) (h : ValsAt B w a len cap zss) (hlen : len ≤ 1048576) (hz : ∀ k, k < zss.length → ((zss.getD k []).length : Int) ≤ 1048576) :
  Calls Tryz.prog 13 #[.slice a len cap] w (CopyV zss w) := by
 have HN := hid h
 have HZ := hid hz
 have hnl := h.length
 clear h hz
 obtain ⟨i0, hi0, hz0, hz1, hz2⟩ := info_parts valueInfo
 obtain ⟨w0, hrun, hown, hgrow⟩ := run_make_full (P := Tryz.prog) w w.heap.size 30 69 i0 _ 1 Tryz.underlying30 hi0 hz0 hz1 .i64 .i64 len (by rw [hz2]; omega) (by unfold maxLen; omega) (Nat.le_refl _)
 have hlt0 : w.heap.size < w0.heap.size := by
  rcases hown.2 with ⟨h', _⟩ | ⟨g', cap', cur, h', _, hg, _⟩
  ·simp at h'
  ·simp only [Value.slice.injEq, Option.some.injEq, Addr.mk.injEq, and_true, true_and] at h'
   obtain ⟨rfl, rfl⟩ := h'
   rcases Nat.lt_or_ge w.heap.size w0.heap.size with h | h
   ·exact h
   ·rw [Array.getElem?_eq_none h] at hg; cases hg
 have HT0 := hid (show w0.there w.heap.size 0 len from fun j hj => ⟨by
   rw [Nat.zero_add, hown.cellAt j (by omega)]
   have hl := hown.1
   rw [List.getElem?_eq_getElem (by omega)]; rfl, by rw [Nat.zero_add]; exact hown.frozenAt j⟩)
 have HB0 := hid ((Below.refl w.heap.size w).grown hgrow (Nat.le_refl _) (by simp))
 clear hi0 hz0 hz1 hz2 hown hgrow
 go_enter Tryz.func13, Tryz.ntmps13
 go_wp2
 clear hrun
 subst hnl
 go_loopw [4] (fun i wr => CopiedV zss w i wr) (fun i _ => zss.length - (intOf i).toNat)
 case atStart => exact ⟨0, [], by omega, rfl, rfl, ⟨hlt0, HT0.out⟩, OwnL.nil _ _ _, fun t h => by omega, HB0.out⟩
 case round =>
  obtain ⟨j, gs, hj, rfl, hgl, hR, hL, hh, hBr⟩ := hrel
  have HR := hid hR
  have HL := hid hL
  have HH := hid hh
  have HBr := hid hBr
  have hlt := hR.1
  clear hR hL hh hBr HT0 HB0 hlt0
  by_cases hjl : j < zss.length
  ·have hki : (j : Int) < zss.length := by omega
   obtain ⟨a', l', c', b, off, rfl, hbB, c0, hz⟩ := val_at (HN.out.below (HBr.out.mono hBw)) hjl
   have hl' := hz.1
   have HI := hid hz
   have hzj := HZ.out j hjl
   clear hz
   go_wp2_with fail
   refine (c_toValue (B := B) wr (Nat.le_trans hBw HBr.out.size) HI.out (by omega)).mono ?_
   rintro e w1 ⟨x, rfl, hx, hzx, hB1⟩
   have HQ := hid (copiedV_next hjl hgl (HR.out.heap (hB1.block _ hlt) hB1.size) (HL.out.below hB1) (fun t ht => (hB1.cell (p := ⟨w.heap.size, t, none⟩) hlt).trans (HH.out t ht)) (HBr.out.trans (hB1.mono HBr.out.size)) (fun y hy => Nat.lt_of_lt_of_le (HL.out.lt hy).2 hx) (Nat.lt_of_lt_of_le hlt hx) hzx)
   obtain ⟨⟨v0, d0⟩, f0⟩ := there1 (show w1.there w.heap.size 0 (zss.length * 1) by rw [Nat.mul_one]; exact (HR.out.heap (hB1.block _ hlt) hB1.size).2) hjl
   clear hB1 c0 hzx hx HI HR HL HH hzj hl'
   generalize (zss.getD j []).length = n at HQ ⊢
   go_wp2
   go_roundw
   case rel => exact HQ.out
   case measure => simp [intOf]; omega
  ·have hki : ¬ (j : Int) < zss.length := by omega
   obtain rfl : j = zss.length := by omega
   go_wp2
   go_ret
   exact ⟨rfl, ⟨gs, ⟨hgl, ⟨HL.out.1, fun j hj => ⟨Nat.le_of_succ_le (HL.out.2 j hj).1, (HL.out.2 j hj).2⟩⟩, fun hm => by have := (HL.out.lt hm).1; omega, hlt, HH.out⟩⟩, HR.out, HBr.out⟩
end Go.Proofs.YtlcgimadbpagfaaGreat
namespace Go.Proofs.YtlcgimadbpagfaaGreat
open Go.Lib
open Go.ChangeShapes Go.WideShapes Go.ChangeAt Go.RowKit Go.Maps
set_option linter.unusedVariables false
set_option maxRecDepth 100000
set_option maxHeartbeats 4000000 in
theorem c_szModelL {B : Nat} {s0 s1 s2 s3 s4 : SL} {M : MD} (w : World) (hBw : B ≤ w.heap.size) (h : ModelAt B w s0 s1 s2 s3 s4 M) :
  Calls Tryz.prog 9 #[.agg (mcells s0 s1 s2 s3 s4).toArray, .int .i64 1048576] w fun e w' => ∃ r, e = .returned (.int .i64 r) ∧ r ≤ 1048576 ∧ (0 ≤ r → s0.len ≤ 1048576 ∧ s1.len ≤ 1048576 ∧ s2.len ≤ 1048576 ∧ s3.len ≤ 1048576 ∧ s4.len ≤ 1048576) ∧ Below w.heap.size w w' := by
 have HMA := hid h
 clear h
 simp only [mcells]
 go_enter Tryz.func9, Tryz.ntmps9
 go_upto_region 1 with fail
 refine code_gen (R := fun wb => Boxed s0 s1 s2 s3 s4 w wb) (Boxed.new _ _ _ _ _ _ _) ?_
 intro w0 hbox
 have HX0 := hid hbox
 clear hbox
 obtain ⟨hlt, x0, x1, x2, x3, x4, hBx⟩ := HX0.out
 have HM0 := hid (HMA.out.below (hBx.mono hBw))
 have hsz0 : B ≤ w0.heap.size := Nat.le_trans hBw hBx.size
 clear hBx
 go_wp2_with fail
 refine (c_szNodeSP (B := B) 1048576 (by omega) (by omega) w0 hsz0 HM0.out.ns).mono ?_
 rintro e w1 ⟨r0, rfl, ha0, hb0, hc0, hB1⟩
 have HX1 := hid (HX0.out.below hB1)
 clear hB1 x0 x1 x2 x3 x4 hlt
 by_cases hn0 : r0 < 0
 ·go_wp2_with fail
  go_ret
  exact ⟨_, rfl, by omega, by omega, HX1.out.2.2.2.2.2.2⟩
 obtain ⟨hlt, x0, x1, x2, x3, x4, hBx⟩ := HX1.out
 have HM1 := hid (HMA.out.below (hBx.mono hBw))
 have hsz1 : B ≤ w1.heap.size := Nat.le_trans hBw hBx.size
 clear hBx
 go_wp2_with fail
 refine (c_szBindS (B := B) r0 (by omega) (by omega) w1 HM1.out.is).mono ?_
 rintro e w2 ⟨r1, rfl, ha1, hb1, hc1, hB1⟩
 have HX2 := hid (HX1.out.below hB1)
 clear hB1 x0 x1 x2 x3 x4 hlt
 by_cases hn1 : r1 < 0
 ·go_wp2_with fail
  go_ret
  exact ⟨_, rfl, by omega, by omega, HX2.out.2.2.2.2.2.2⟩
 obtain ⟨hlt, x0, x1, x2, x3, x4, hBx⟩ := HX2.out
 have HM2 := hid (HMA.out.below (hBx.mono hBw))
 have hsz2 : B ≤ w2.heap.size := Nat.le_trans hBw hBx.size
 clear hBx
 go_wp2_with fail
 refine (c_szBindS (B := B) r1 (by omega) (by omega) w2 HM2.out.xs).mono ?_
 rintro e w3 ⟨r2, rfl, ha2, hb2, hc2, hB1⟩
 have HX3 := hid (HX2.out.below hB1)
 clear hB1 x0 x1 x2 x3 x4 hlt
 by_cases hn2 : r2 < 0
 ·go_wp2_with fail
  go_ret
  exact ⟨_, rfl, by omega, by omega, HX3.out.2.2.2.2.2.2⟩
 obtain ⟨hlt, x0, x1, x2, x3, x4, hBx⟩ := HX3.out
 have HM3 := hid (HMA.out.below (hBx.mono hBw))
 have hsz3 : B ≤ w3.heap.size := Nat.le_trans hBw hBx.size
 clear hBx
 go_wp2_with fail
 refine (c_szIntS (B := B) r2 (by omega) (by omega) w3 HM3.out.bads).mono ?_
 rintro e w4 ⟨r3, rfl, ha3, hb3, hc3, hB1⟩
 have HX4 := hid (HX3.out.below hB1)
 clear hB1 x0 x1 x2 x3 x4 hlt
 by_cases hn3 : r3 < 0
 ·go_wp2_with fail
  go_ret
  exact ⟨_, rfl, by omega, by omega, HX4.out.2.2.2.2.2.2⟩
 obtain ⟨hlt, x0, x1, x2, x3, x4, hBx⟩ := HX4.out
 have HM4 := hid (HMA.out.below (hBx.mono hBw))
 have hsz4 : B ≤ w4.heap.size := Nat.le_trans hBw hBx.size
 clear hBx
 go_wp2_with fail
 refine (c_szIntS (B := B) r3 (by omega) (by omega) w4 HM4.out.holds).mono ?_
 rintro e w5 ⟨r4, rfl, ha4, hb4, hc4, hB1⟩
 have HX5 := hid (HX4.out.below hB1)
 clear hB1 x0 x1 x2 x3 x4 hlt
 by_cases hn4 : r4 < 0
 ·go_wp2_with fail
  go_ret
  exact ⟨_, rfl, by omega, by omega, HX5.out.2.2.2.2.2.2⟩
 go_wp2_with fail
 go_ret
 exact ⟨_, rfl, by omega, fun _ => ⟨by omega, by omega, by omega, by omega, by omega⟩, HX5.out.2.2.2.2.2.2⟩
end Go.Proofs.YtlcgimadbpagfaaGreat
namespace Go.Proofs.YtlcgimadbpagfaaGreat
open Go.Lib
open Go.ChangeShapes Go.WideShapes Go.ChangeAt Go.RowKit Go.Maps
set_option linter.unusedVariables false
set_option maxRecDepth 100000
def valOk (si sw : Int) (zs : List Int) : Prop := (zs.length : Int) = cellsN si sw ∧ ∀ j, j < zs.length → WOk sw (zs.getD j 0)
def FitsP (P : List Int) (ns : List ND) (zss : List (List Int)) : Prop := zss.length = P.length ∧ ∀ k, k < zss.length → valOk (ns.getD (P.getD k 0).toNat default).si (ns.getD (P.getD k 0).toNat default).sw (zss.getD k [])
def FitsN (kind : Int) (ns : List ND) (zss : List (List Int)) : Prop := FitsP (plcs kind ns ns.length) ns zss
theorem plcs_mem {kind : Int} {ns : List ND} {k : Nat} {p : Int} (h : p ∈ plcs kind ns k) : 0 ≤ p ∧ p < k ∧ (ns.getD p.toNat default).kind = kind := by
 induction k with
 | zero => simp [plcs] at h
 | succ k ih =>
  unfold plcs at h
  split at h
  ·rename_i hk
   simp only [List.mem_append, List.mem_singleton] at h
   rcases h with h | rfl
   ·have := ih h; exact ⟨this.1, by omega, this.2.2⟩
   ·exact ⟨by omega, by omega, by simpa using hk⟩
  ·have := ih h; exact ⟨this.1, by omega, this.2.2⟩
theorem plcs_at {kind : Int} {ns : List ND} {n k : Nat} (h : k < (plcs kind ns n).length) : 0 ≤ (plcs kind ns n).getD k 0 ∧ (plcs kind ns n).getD k 0 < n := by
 have hm : (plcs kind ns n).getD k 0 ∈ plcs kind ns n := by simp only [List.getD, List.getElem?_eq_getElem h, Option.getD_some]; exact List.getElem_mem ..
 exact ⟨(plcs_mem hm).1, (plcs_mem hm).2.1⟩
set_option maxHeartbeats 4000000 in
theorem c_valueOk {B : Nat} {a : Option Addr} {len cap : Nat} {zs : List Int} (si sw : Int) (w : World) (hB : B ≤ w.heap.size) (h : IntsAt B w a len cap zs) :
  Calls Tryz.prog 102 #[.agg #[.int .i64 si, .int .i64 sw], .agg #[.slice a len cap]] w fun e w' => BoolIs (valOk si sw zs) e ∧ Below w.heap.size w w' := by
 have HN := hid h
 have hlen : zs.length = len := h.1
 have hm : len ≤ maxLen := Nat.le_trans h.2.1 h.2.2.1
 unfold maxLen at hm
 clear h
 go_enter Tryz.func102, Tryz.ntmps102
 go_upto_region 1 with fail
 refine code_gen (R := fun wb => wb.cell? ⟨w.heap.size, 0, none⟩ = some (.int .i64 si) ∧ wb.cell? ⟨w.heap.size, 1, none⟩ = some (.int .i64 sw) ∧ wb.cell? ⟨w.heap.size + 1, 0, none⟩ = some (.slice a len cap) ∧ w.heap.size + 1 < wb.heap.size ∧ Below w.heap.size w wb) ⟨by simp, by simp, by simp, by simp, by go_grown⟩ ?_
 rintro w0 ⟨x0, x1, y0, hl1, hB0⟩
 have hl0 : w.heap.size < w0.heap.size := by omega
 have HB := hid hB0
 have HN0 := hid (HN.out.below (hB0.mono hB))
 have hBB : B ≤ w0.heap.size := Nat.le_trans hB hB0.size
 clear hB0 HN
 refine wp_region_held_drew (S := (fun w' => w'.cell? ⟨w.heap.size, 0, none⟩ = some (.int .i64 si) ∧ w'.cell? ⟨w.heap.size, 1, none⟩ = some (.int .i64 sw) ∧ w'.cell? ⟨w.heap.size + 1, 0, none⟩ = some (.slice a len cap))) (by kernel_rfl) ?_ (fun hHeld => ?_)
 ·exact ⟨keepc (by go_grown) hl0 x0, keepc (by go_grown) hl0 x1, keepc (by go_grown) hl1 y0⟩
 refine tL 0 (some 7) ?_
 refine tL 1 (some 8) ?_
 refine tL 2 (some 9) ?_
 refine tL 3 (some 10) ?_
 refine wpAnyH_ready (rs := [4]) (by kernel_rfl) (by simp) ?_
 refine .cons (o := _) rfl (fun K hK => ?_) .nil
 go_simp
 refine (c_SortCellsI _ _ _).mono ?_; rintro e w1 ⟨rfl, hq⟩; have hb1 : Below w0.heap.size w0 w1 := bstep (by go_grown) (Nat.le_refl _) hq; clear hq
 (try go_wp2_with fail)
 (try clear hHeld)
 refine hK.out _ _ ?_ (fun hHeld => ?_)
 ·exact ⟨keepc (by go_grown) hl0 x0, keepc (by go_grown) hl0 x1, keepc (by go_grown) hl1 y0⟩
 clear hK K
 (try simp only [Act.put, zq1, zq2, zq3])
 refine tL 5 (some 12) ?_
 refine wpAnyH_done (by kernel_rfl) ?_ _
 clear hHeld
 by_cases hc : (len : Int) = cellsN si sw
 ·have hcb : ((len : Int) != cellsN si sw) = false := by simp [hc]
  go_upto_region 3 with fail
  (try rw [hcb])
  clear hcb
  refine code_gen (R := fun wb => Below w0.heap.size w0 wb) (by go_grown) ?_
  intro w2 hb2
  have x2 := keepc hb2 hl0 x1
  have y2 := keepc hb2 hl1 y0
  have hl2 := Nat.lt_of_lt_of_le hl0 hb2.size
  have HN2 := hid (HN0.out.below (hb2.mono hBB))
  have hB2 : B ≤ w2.heap.size := Nat.le_trans hBB hb2.size
  have HB2 := hid (HB.out.trans (hb2.mono HB.out.size))
  have HC := hid hc
  clear hb2 hb1 x0 x1 y0 HN0 HB hc
  go_wp2_with fail
  go_loopw [16] (fun i wr => ∃ t : Nat, t ≤ len ∧ i = .int .i64 t ∧ (∀ j, j < t → WOk sw (zs.getD j 0)) ∧ Below w2.heap.size w2 wr) (fun i _ => len - (intOf i).toNat)
  case atStart => exact ⟨0, by omega, rfl, fun j h => by omega, Below.refl _ _⟩
  case round =>
   obtain ⟨t, ht, rfl, hall, hBk⟩ := hrel
   have HA := hid hall
   have x3 := keepc hBk hl2 x2
   have HBk := hid hBk
   clear hall hBk
   by_cases htl : t < len
   ·have hti : (t : Int) < len := by omega
    obtain ⟨z, b, off, hz, -, rfl, hbB, c0⟩ := int_at (HN2.out.below (HBk.out.mono hB2)) htl
    by_cases hw : WOk sw z
    ·have hd : decide (WOk sw z) = true := decide_eq_true hw
     have HY := hid (show ∀ j, j < t + 1 → WOk sw (zs.getD j 0) from fun j hj => by
      rcases Nat.lt_or_ge j t with h | h
      ·exact HA.out j h
      ·obtain rfl : j = t := by omega
       rw [hz]; exact hw)
     clear hz hw
     go_wp2_with (first | (go_at_call 148; refine (c_WordOkI _ _ _).mono ?_; rw [hd]; rintro e w' ⟨rfl, rfl⟩))
     go_roundw
     case rel => exact ⟨t + 1, by omega, by go_num, HY.out, HBk.out⟩
     case measure => simp [intOf] <;> omega
    ·have hd : decide (WOk sw z) = false := decide_eq_false hw
     have HY := hid (show ¬ valOk si sw zs from fun h => hw (by rw [← hz]; exact h.2 t (by omega)))
     clear hz hw
     go_wp2_with (first | (go_at_call 148; refine (c_WordOkI _ _ _).mono ?_; rw [hd]; rintro e w' ⟨rfl, rfl⟩))
     go_ret
     exact ⟨BoolIs.no HY.out, HB2.out.trans (HBk.out.mono HB2.out.size)⟩
   ·have hti : ¬ (t : Int) < len := by omega
    obtain rfl : t = len := by omega
    go_wp2_with fail
    go_ret
    exact ⟨BoolIs.yes ⟨by rw [hlen]; exact HC.out, fun j hj => HA.out j (by omega)⟩, HB2.out.trans (HBk.out.mono HB2.out.size)⟩
 ·have HC := hid (show ¬ valOk si sw zs from fun h => hc (by rw [← hlen]; exact h.1))
  go_wp2_with fail
  go_ret
  exact ⟨BoolIs.no HC.out, HB.out.trans (Below.mono (show Below w0.heap.size w0 _ by go_grown) HB.out.size)⟩
set_option maxHeartbeats 4000000 in
theorem c_valuesFit {B : Nat} {a0 : Option Addr} {l0 p0 : Nat} {ns : List ND} {a : Option Addr} {len cap : Nat} {zss : List (List Int)} (kind : Int) (w : World) (hBw : B ≤ w.heap.size) (h : NodesAt B w a0 l0 p0 ns) (h60 : l0 ≤ 60) (hv : ValsAt B w a len cap zss) :
  Calls Tryz.prog 64 #[.slice a0 l0 p0, .int .i64 kind, .slice a len cap] w fun e w' => BoolIs (FitsN kind ns zss) e ∧ Below w.heap.size w w' := by
 have HN := hid h
 have HV := hid hv
 have hnl : ns.length = l0 := h.1
 have hlen : zss.length = len := hv.length
 have hm := hv.le
 unfold maxLen at hm
 clear h hv
 unfold FitsN
 obtain ⟨P, hP⟩ : ∃ P, plcs kind ns ns.length = P := ⟨_, rfl⟩
 have HPP := hid hP
 rw [hP]
 clear hP
 go_enter Tryz.func64, Tryz.ntmps64
 go_wp2_with fail
 refine (c_kindPlaces (B := B) kind w hBw HN.out h60).mono ?_
 rintro e w1 ⟨v, rfl, ho, hq⟩
 rw [HPP.out] at ho
 obtain ⟨pa, pcap, rfl, -⟩ := own_form ho
 have HP := hid (own_ints ho rfl)
 have HPL := hid (show ∀ k, k < P.length → 0 ≤ P.getD k 0 ∧ P.getD k 0 < l0 from fun k hk => by have h := HPP.out; subst h; have := plcs_at hk; omega)
 have hp60 : P.length ≤ 60 := by have := plcs_len kind ns ns.length; rw [HPP.out] at this; omega
 have HQ := hid hq
 have hB1 : B ≤ w1.heap.size := Nat.le_trans hBw hq.size
 have HN1 := hid (HN.out.rows.below (hq.mono hBw)).nodes
 have HV1 := hid (HV.out.below (hq.mono hBw))
 clear ho hq HN HV HPP
 by_cases hl : len = P.length
 ·have hli : (len : Int) = P.length := by omega
  go_wp2_with fail
  go_loopw [20] (fun i wr => ∃ t : Nat, t ≤ P.length ∧ i = .int .i64 t ∧ (∀ k, k < t → valOk (ns.getD (P.getD k 0).toNat default).si (ns.getD (P.getD k 0).toNat default).sw (zss.getD k [])) ∧ Below w1.heap.size w1 wr) (fun i _ => P.length - (intOf i).toNat)
  case atStart => exact ⟨0, by omega, rfl, fun j h => by omega, Below.refl _ _⟩
  case round =>
   obtain ⟨t, ht, rfl, hall, hBk⟩ := hrel
   have HA := hid hall
   have HBk := hid hBk
   clear hall hBk
   by_cases htl : t < P.length
   ·have hti : (t : Int) < P.length := by omega
    have hti2 : (t : Int) < len := by omega
    have hBr : B ≤ wr.heap.size := Nat.le_trans hB1 HBk.out.size
    obtain ⟨p, b1, o1, hp, -, rfl, hbB1, e0⟩ := int_at (HP.out.below HBk.out) htl
    have hpr := HPL.out t htl
    rw [hp] at hpr
    obtain ⟨q, rfl⟩ : ∃ q : Nat, p = q := ⟨p.toNat, by omega⟩
    have hql : (q : Int) < l0 := hpr.2
    obtain ⟨nd, b, off, hnd, rfl, hbB, hc⟩ := kind_at ((HN1.out.rows.below (HBk.out.mono hB1)).nodes) (show q < l0 by omega)
    obtain ⟨-, -, -, -, -, -, d6, d7, -⟩ := node_cells hc
    obtain ⟨a', l', c', b2, o2, rfl, hbB2, f0, hz⟩ := val_at (HV1.out.below (HBk.out.mono hB1)) (show t < len by omega)
    have HZ := hid hz
    have hbr : b < wr.heap.size := Nat.lt_of_lt_of_le hbB hBr
    have hbr2 : b2 < wr.heap.size := Nat.lt_of_lt_of_le hbB2 hBr
    have HND := hid (show (ns.getD (P.getD t 0).toNat default) = nd by rw [hp]; simpa using hnd)
    obtain ⟨k0, pa', pb, pc, n, m, si, sw, nm⟩ := nd
    simp only at d6 d7
    clear hc hz hnd hp hpr
    by_cases hv : valOk si sw (zss.getD t [])
    ·have HY := hid (show ∀ k, k < t + 1 → valOk (ns.getD (P.getD k 0).toNat default).si (ns.getD (P.getD k 0).toNat default).sw (zss.getD k []) from fun k hk => by
      rcases Nat.lt_or_ge k t with h | h
      ·exact HA.out k h
      ·obtain rfl : k = t := by omega
       rw [HND.out]; exact hv)
     have HVV := hid hv
     clear hv
     go_upto_region 7 with fail
     clear e0
     refine wp_region_held_drew (S := (fun w' => w'.cell? ⟨b, off + q * 9 + 6, none⟩ = some (.int .i64 si) ∧ w'.cell? ⟨b, off + q * 9 + 7, none⟩ = some (.int .i64 sw) ∧ w'.cell? ⟨b2, o2 + t, none⟩ = some (.slice a' l' c'))) (by kernel_rfl) ?_ (fun hHeld => ?_)
     ·exact ⟨keepc (by go_grown) hbr d6, keepc (by go_grown) hbr d7, keepc (by go_grown) hbr2 f0⟩
     refine tL 0 (some 25) ?_
     refine tL 1 (some 26) ?_
     refine tL 2 (some 27) ?_
     refine tL 3 (some 28) ?_
     refine tL 4 (some 29) ?_
     refine tL 5 (some 30) ?_
     refine tL 6 (some 31) ?_
     refine tL 7 (some 32) ?_
     refine tL 8 (some 33) ?_
     refine wpAnyH_ready (rs := [9]) (by kernel_rfl) (by simp) ?_
     refine .cons (o := _) rfl (fun K hK => ?_) .nil
     go_simp
     refine (c_valueOk (B := B) si sw _ (Nat.le_trans hBr (by go_size)) (HZ.out.below (Below.mono (show Below wr.heap.size wr _ by go_grown) hBr))).mono ?_; rintro e w2 ⟨he, hq⟩; obtain rfl := boolIs_t HVV.out he; have hb2 : Below wr.heap.size wr w2 := bstep (by go_grown) (Nat.le_refl _) hq; clear hq he
     (try go_wp2_with fail)
     (try clear hHeld)
     refine hK.out _ _ ?_ (fun hHeld => ?_)
     ·exact ⟨keepc (by go_grown) hbr d6, keepc (by go_grown) hbr d7, keepc (by go_grown) hbr2 f0⟩
     clear hK K
     (try simp only [Act.put, zq1, zq2, zq3])
     refine tL 10 (some 35) ?_
     refine wpAnyH_done (by kernel_rfl) ?_ _
     clear hHeld
     go_wp2_with fail
     go_roundw
     case rel => exact ⟨t + 1, by omega, by go_num, HY.out, HBk.out.trans (Below.mono (show Below wr.heap.size wr _ by go_grown) HBk.out.size)⟩
     case measure => simp [intOf] <;> omega
    ·have HY := hid (show ¬ FitsP P ns zss from fun h => hv (by have := h.2 t (by omega); rw [HND.out] at this; exact this))
     have HVV := hid hv
     clear hv
     go_upto_region 7 with fail
     clear e0
     refine wp_region_held_drew (S := (fun w' => w'.cell? ⟨b, off + q * 9 + 6, none⟩ = some (.int .i64 si) ∧ w'.cell? ⟨b, off + q * 9 + 7, none⟩ = some (.int .i64 sw) ∧ w'.cell? ⟨b2, o2 + t, none⟩ = some (.slice a' l' c'))) (by kernel_rfl) ?_ (fun hHeld => ?_)
     ·exact ⟨keepc (by go_grown) hbr d6, keepc (by go_grown) hbr d7, keepc (by go_grown) hbr2 f0⟩
     refine tL 0 (some 25) ?_
     refine tL 1 (some 26) ?_
     refine tL 2 (some 27) ?_
     refine tL 3 (some 28) ?_
     refine tL 4 (some 29) ?_
     refine tL 5 (some 30) ?_
     refine tL 6 (some 31) ?_
     refine tL 7 (some 32) ?_
     refine tL 8 (some 33) ?_
     refine wpAnyH_ready (rs := [9]) (by kernel_rfl) (by simp) ?_
     refine .cons (o := _) rfl (fun K hK => ?_) .nil
     go_simp
     refine (c_valueOk (B := B) si sw _ (Nat.le_trans hBr (by go_size)) (HZ.out.below (Below.mono (show Below wr.heap.size wr _ by go_grown) hBr))).mono ?_; rintro e w2 ⟨he, hq⟩; obtain rfl := boolIs_f HVV.out he; have hb2 : Below wr.heap.size wr w2 := bstep (by go_grown) (Nat.le_refl _) hq; clear hq he
     (try go_wp2_with fail)
     (try clear hHeld)
     refine hK.out _ _ ?_ (fun hHeld => ?_)
     ·exact ⟨keepc (by go_grown) hbr d6, keepc (by go_grown) hbr d7, keepc (by go_grown) hbr2 f0⟩
     clear hK K
     (try simp only [Act.put, zq1, zq2, zq3])
     refine tL 10 (some 35) ?_
     refine wpAnyH_done (by kernel_rfl) ?_ _
     clear hHeld
     go_wp2_with fail
     go_ret
     exact ⟨BoolIs.no HY.out, HQ.out.trans (Below.mono (HBk.out.trans (Below.mono (show Below wr.heap.size wr _ by go_grown) HBk.out.size)) HQ.out.size)⟩
   ·have hti : ¬ (t : Int) < P.length := by omega
    obtain rfl : t = P.length := by omega
    go_wp2_with fail
    go_ret
    exact ⟨BoolIs.yes ⟨by omega, fun k hk => HA.out k (by omega)⟩, HQ.out.trans (HBk.out.mono HQ.out.size)⟩
 ·have hli : ¬ (len : Int) = P.length := by omega
  have HC := hid (show ¬ FitsP P ns zss from fun h => hl (by rw [← hlen]; exact h.1))
  go_wp2_with fail
  go_ret
  exact ⟨BoolIs.no HC.out, HQ.out⟩
set_option maxHeartbeats 8000000 in
theorem c_l4Fits {B : Nat} {s0 s1 s2 s3 s4 : SL} {M : MD} {pa : Option Addr} {pl pcap : Nat} {P : List Int} {a : Option Addr} {len cap : Nat} {zss : List (List Int)} (w : World) (hBw : B ≤ w.heap.size) (h : ModelAt B w s0 s1 s2 s3 s4 M) (hp : IntsAt B w pa pl pcap P) (hpl : ∀ k, k < P.length → 0 ≤ P.getD k 0 ∧ P.getD k 0 < s0.len) (hv : ValsAt B w a len cap zss) :
  Calls Tryz.prog 84 #[.agg (mcells s0 s1 s2 s3 s4).toArray, .slice pa pl pcap, .slice a len cap] w fun e w' => BoolIs (FitsP P M.ns zss) e ∧ Below w.heap.size w w' := by
 have HN := hid h.ns
 have HV := hid hv
 have HP := hid hp
 have HPL := hid hpl
 have hlen : zss.length = len := hv.length
 have hpl' : P.length = pl := hp.1
 have hm := hv.le
 have hmp := Nat.le_trans hp.2.1 hp.2.2.1
 have hm0 := Nat.le_trans h.ns.2.1 h.ns.2.2.1
 unfold maxLen at hm hmp hm0
 clear h hv hp hpl
 obtain ⟨a0, l0, p0⟩ := s0
 simp only [mcells] at *
 go_enter Tryz.func84, Tryz.ntmps84
 by_cases hl : len = pl
 ·have hli : (len : Int) = pl := by omega
  go_wp2_with fail
  go_loopw [7] (fun i wr => ∃ t : Nat, t ≤ len ∧ i = .int .i64 t ∧ (∀ k, k < t → valOk (M.ns.getD (P.getD k 0).toNat default).si (M.ns.getD (P.getD k 0).toNat default).sw (zss.getD k [])) ∧ Boxed ⟨a0, l0, p0⟩ s1 s2 s3 s4 w wr) (fun i _ => len - (intOf i).toNat)
  case atStart => exact ⟨0, by omega, rfl, fun j h => by omega, Boxed.new _ _ _ _ _ _ _⟩
  case round =>
   obtain ⟨t, ht, rfl, hall, hbx⟩ := hrel
   have HA := hid hall
   have HX := hid hbx
   obtain ⟨hlt, g0, -, -, -, -, hBk⟩ := hbx
   have HBk := hid hBk
   clear hall hBk
   simp only at g0
   by_cases htl : t < len
   ·have hti : (t : Int) < len := by omega
    have hti2 : (t : Int) < pl := by omega
    have hBr : B ≤ wr.heap.size := Nat.le_trans hBw HBk.out.size
    obtain ⟨p, b1, o1, hp, -, rfl, hbB1, e0⟩ := int_at (HP.out.below (HBk.out.mono hBw)) (show t < pl by omega)
    have hpr := HPL.out t (by omega)
    rw [hp] at hpr
    obtain ⟨q, rfl⟩ : ∃ q : Nat, p = q := ⟨p.toNat, by omega⟩
    have hql : (q : Int) < l0 := hpr.2
    obtain ⟨nd, b, off, hnd, rfl, hbB, hc⟩ := kind_at ((HN.out.rows.below (HBk.out.mono hBw)).nodes) (show q < l0 by omega)
    obtain ⟨-, -, -, -, -, -, d6, d7, -⟩ := node_cells hc
    obtain ⟨a', l', c', b2, o2, rfl, hbB2, f0, hz⟩ := val_at (HV.out.below (HBk.out.mono hBw)) (show t < len by omega)
    have hzl := hz.1
    have hzm := Nat.le_trans hz.2.1 hz.2.2.1
    unfold maxLen at hzm
    have HZ := hid hz
    have hbr1 : b1 < wr.heap.size := Nat.lt_of_lt_of_le hbB1 hBr
    have hbr : b < wr.heap.size := Nat.lt_of_lt_of_le hbB hBr
    have hbr2 : b2 < wr.heap.size := Nat.lt_of_lt_of_le hbB2 hBr
    have HND := hid (show (M.ns.getD (P.getD t 0).toNat default) = nd by rw [hp]; simpa using hnd)
    obtain ⟨k0, pa', pb, pc, n, m, si, sw, nm⟩ := nd
    simp only at d6 d7
    clear hc hz hnd hp hpr
    go_upto_region 6 with fail
    refine wp_region_held_drew (S := (fun w' => w'.cell? ⟨w.heap.size, 0, none⟩ = some (.slice (some ⟨b, off, none⟩) l0 p0) ∧ w'.cell? ⟨b1, o1 + t, none⟩ = some (.int .i64 q) ∧ w'.cell? ⟨b, off + q * 9 + 6, none⟩ = some (.int .i64 si) ∧ w'.cell? ⟨b, off + q * 9 + 7, none⟩ = some (.int .i64 sw))) (by kernel_rfl) ?_ (fun hHeld => ?_)
    ·exact ⟨keepc (by go_grown) hlt g0, keepc (by go_grown) hbr1 e0, keepc (by go_grown) hbr d6, keepc (by go_grown) hbr d7⟩
    refine tL 0 (some 21) ?_
    refine tL 1 (some 22) ?_
    refine tL 2 (some 23) ?_
    refine tL 3 (some 24) ?_
    refine tL 4 (some 25) ?_
    refine tL 5 (some 26) ?_
    refine tL 6 (some 27) ?_
    refine tL 7 (some 28) ?_
    refine tL 8 (some 29) ?_
    refine wpAnyH_ready (rs := [9]) (by kernel_rfl) (by simp) ?_
    refine .cons (o := _) rfl (fun K hK => ?_) .nil
    go_simp
    (try clear hHeld)
    refine hK.out _ _ ?_ (fun hHeld => ?_)
    ·exact ⟨keepc (by go_grown) hlt g0, keepc (by go_grown) hbr1 e0, keepc (by go_grown) hbr d6, keepc (by go_grown) hbr d7⟩
    clear hK K
    (try simp only [Act.put, zq1, zq2, zq3])
    refine wpAnyH_ready (rs := [10]) (by kernel_rfl) (by simp) ?_
    refine .cons (o := _) rfl (fun K hK => ?_) .nil
    go_simp
    (try clear hHeld)
    refine hK.out _ _ ?_ (fun hHeld => ?_)
    ·exact ⟨keepc (by go_grown) hlt g0, keepc (by go_grown) hbr1 e0, keepc (by go_grown) hbr d6, keepc (by go_grown) hbr d7⟩
    clear hK K
    (try simp only [Act.put, zq1, zq2, zq3])
    refine wpAnyH_done (by kernel_rfl) ?_ _
    clear hHeld
    go_upto_region 7 with fail
    refine code_gen (R := fun wb => wb.cell? ⟨wr.heap.size, 0, none⟩ = some (.int .i64 si) ∧ wb.cell? ⟨wr.heap.size, 1, none⟩ = some (.int .i64 sw) ∧ wr.heap.size < wb.heap.size ∧ Below wr.heap.size wr wb) ⟨by simp, by simp, by simp, by go_grown⟩ ?_
    rintro w3 ⟨s6, s7, hgs, hb3⟩
    have f3 := keepc hb3 hbr2 f0
    have hb23 := Nat.lt_of_lt_of_le hbr2 hb3.size
    have HX3 := hid (HX.out.below hb3)
    have HZ3 := hid (HZ.out.below (hb3.mono hBr))
    have hB3 : B ≤ w3.heap.size := Nat.le_trans hBr hb3.size
    generalize hgg : wr.heap.size = gs at *
    clear hgg hb3 g0 e0 d6 d7 f0 HX HZ HBk hlt hbr hbr1 hbr2 hBr
    refine wp_region_held_drew (S := (fun w' => w'.cell? ⟨b2, o2 + t, none⟩ = some (.slice a' l' c') ∧ w'.cell? ⟨gs, 0, none⟩ = some (.int .i64 si) ∧ w'.cell? ⟨gs, 1, none⟩ = some (.int .i64 sw))) (by kernel_rfl) ?_ (fun hHeld => ?_)
    ·exact ⟨keepc (by go_grown) hb23 f3, keepc (by go_grown) hgs s6, keepc (by go_grown) hgs s7⟩
    refine tL 0 (some 30) ?_
    refine tL 1 (some 31) ?_
    refine tL 2 (some 32) ?_
    refine tL 3 (some 33) ?_
    refine tL 4 (some 34) ?_
    refine tL 5 (some 35) ?_
    refine tL 6 (some 36) ?_
    refine wpAnyH_ready (rs := [7]) (by kernel_rfl) (by simp) ?_
    refine .cons (o := _) rfl (fun K hK => ?_) .nil
    go_simp
    refine (c_SortCellsS _ _ _).mono ?_; rintro e w4 ⟨rfl, hq⟩; have hb4 : Below w3.heap.size w3 w4 := bstep (by go_grown) (Nat.le_refl _) hq; clear hq
    (try go_wp2_with fail)
    (try clear hHeld)
    refine hK.out _ _ ?_ (fun hHeld => ?_)
    ·exact ⟨keepc (by go_grown) hb23 f3, keepc (by go_grown) hgs s6, keepc (by go_grown) hgs s7⟩
    clear hK K
    (try simp only [Act.put, zq1, zq2, zq3])
    refine tL 8 (some 38) ?_
    refine wpAnyH_done (by kernel_rfl) ?_ _
    clear hHeld
    by_cases hc : (l' : Int) = cellsN si sw
    ·have hcb : ((l' : Int) != cellsN si sw) = false := by simp [hc]
     go_upto_region 9 with fail
     (try rw [hcb])
     clear hcb
     refine code_gen (R := fun wb => Below w3.heap.size w3 wb) (by go_grown) ?_
     intro w5 hb5
     have f4 := keepc hb5 hb23 f3
     have s5 := keepc hb5 hgs s7
     have hb25 := Nat.lt_of_lt_of_le hb23 hb5.size
     have hgs5 := Nat.lt_of_lt_of_le hgs hb5.size
     have HX5 := hid (HX3.out.below hb5)
     have HZ5 := hid (HZ3.out.below (hb5.mono hB3))
     have hB5 : B ≤ w5.heap.size := Nat.le_trans hB3 hb5.size
     have HC := hid hc
     clear hb5 hb4 f3 s6 s7 HX3 HZ3 hB3 hb23 hgs hc
     go_wp2_with fail
     go_loopw [9] (fun i wr => ∃ j : Nat, j ≤ l' ∧ i = .int .i64 j ∧ (∀ y, y < j → WOk sw ((zss.getD t []).getD y 0)) ∧ Below w5.heap.size w5 wr) (fun i _ => l' - (intOf i).toNat)
     case atStart => exact ⟨0, by omega, rfl, fun j h => by omega, Below.refl _ _⟩
     case round =>
      obtain ⟨j, hj, rfl, hall, hBj⟩ := hrel
      have HAJ := hid hall
      have HBj := hid hBj
      have f5 := keepc hBj hb25 f4
      have s8 := keepc hBj hgs5 s5
      have hb2r := Nat.lt_of_lt_of_le hb25 hBj.size
      have hgsr := Nat.lt_of_lt_of_le hgs5 hBj.size
      have hBrr := Nat.le_trans hB5 hBj.size
      clear hall hBj
      by_cases hjl : j < l'
      ·have hji : (j : Int) < l' := by omega
       obtain ⟨z, b3, o3, hz, -, rfl, hbB3, z0⟩ := int_at (HZ5.out.below (HBj.out.mono hB5)) hjl
       have hb3r : b3 < wr.heap.size := Nat.lt_of_lt_of_le hbB3 hBrr
       by_cases hw : WOk sw z
       ·have hd : decide (WOk sw z) = true := decide_eq_true hw
        have HY := hid (show ∀ y, y < j + 1 → WOk sw ((zss.getD t []).getD y 0) from fun y hy => by
         rcases Nat.lt_or_ge y j with h | h
         ·exact HAJ.out y h
         ·obtain rfl : y = j := by omega
          rw [hz]; exact hw)
        clear hz hw
        go_upto_region 12 with fail
        refine wp_region_held_drew (S := (fun w' => w'.cell? ⟨b2, o2 + t, none⟩ = some (.slice (some ⟨b3, o3, none⟩) l' c') ∧ w'.cell? ⟨gs, 1, none⟩ = some (.int .i64 sw) ∧ w'.cell? ⟨b3, o3 + j, none⟩ = some (.int .i64 z))) (by kernel_rfl) ?_ (fun hHeld => ?_)
        ·exact ⟨keepc (by go_grown) hb2r f5, keepc (by go_grown) hgsr s8, keepc (by go_grown) hb3r z0⟩
        refine tL 0 (some 49) ?_
        refine tL 1 (some 50) ?_
        refine tL 2 (some 51) ?_
        refine tL 3 (some 52) ?_
        refine tL 4 (some 53) ?_
        refine tL 5 (some 54) ?_
        refine tL 6 (some 55) ?_
        refine tL 7 (some 56) ?_
        refine tL 8 (some 57) ?_
        refine tL 9 (some 58) ?_
        refine wpAnyH_ready (rs := [10]) (by kernel_rfl) (by simp) ?_
        refine .cons (o := _) rfl (fun K hK => ?_) .nil
        go_simp
        refine (c_WordOkS _ _ _).mono ?_; rw [hd]; rintro e w6 ⟨rfl, rfl⟩
        (try go_wp2_with fail)
        (try clear hHeld)
        refine hK.out _ _ ?_ (fun hHeld => ?_)
        ·exact ⟨keepc (by go_grown) hb2r f5, keepc (by go_grown) hgsr s8, keepc (by go_grown) hb3r z0⟩
        clear hK K
        (try simp only [Act.put, zq1, zq2, zq3])
        refine tL 11 (some 60) ?_
        refine wpAnyH_done (by kernel_rfl) ?_ _
        clear hHeld
        go_wp2_with fail
        go_roundw
        case rel => exact ⟨j + 1, by omega, by go_num, HY.out, HBj.out.trans (Below.mono (show Below wr.heap.size wr _ by go_grown) HBj.out.size)⟩
        case measure => simp [intOf] <;> omega
       ·have hd : decide (WOk sw z) = false := decide_eq_false hw
        have HY := hid (show ¬ FitsP P M.ns zss from fun h => hw (by have := (h.2 t (by omega)).2 j (by omega); rw [HND.out, hz] at this; exact this))
        clear hz hw
        go_upto_region 12 with fail
        refine wp_region_held_drew (S := (fun w' => w'.cell? ⟨b2, o2 + t, none⟩ = some (.slice (some ⟨b3, o3, none⟩) l' c') ∧ w'.cell? ⟨gs, 1, none⟩ = some (.int .i64 sw) ∧ w'.cell? ⟨b3, o3 + j, none⟩ = some (.int .i64 z))) (by kernel_rfl) ?_ (fun hHeld => ?_)
        ·exact ⟨keepc (by go_grown) hb2r f5, keepc (by go_grown) hgsr s8, keepc (by go_grown) hb3r z0⟩
        refine tL 0 (some 49) ?_
        refine tL 1 (some 50) ?_
        refine tL 2 (some 51) ?_
        refine tL 3 (some 52) ?_
        refine tL 4 (some 53) ?_
        refine tL 5 (some 54) ?_
        refine tL 6 (some 55) ?_
        refine tL 7 (some 56) ?_
        refine tL 8 (some 57) ?_
        refine tL 9 (some 58) ?_
        refine wpAnyH_ready (rs := [10]) (by kernel_rfl) (by simp) ?_
        refine .cons (o := _) rfl (fun K hK => ?_) .nil
        go_simp
        refine (c_WordOkS _ _ _).mono ?_; rw [hd]; rintro e w6 ⟨rfl, rfl⟩
        (try go_wp2_with fail)
        (try clear hHeld)
        refine hK.out _ _ ?_ (fun hHeld => ?_)
        ·exact ⟨keepc (by go_grown) hb2r f5, keepc (by go_grown) hgsr s8, keepc (by go_grown) hb3r z0⟩
        clear hK K
        (try simp only [Act.put, zq1, zq2, zq3])
        refine tL 11 (some 60) ?_
        refine wpAnyH_done (by kernel_rfl) ?_ _
        clear hHeld
        go_wp2_with fail
        go_ret
        exact ⟨BoolIs.no HY.out, HX5.out.2.2.2.2.2.2.trans (Below.mono (HBj.out.trans (Below.mono (show Below wr.heap.size wr _ by go_grown) HBj.out.size)) HX5.out.2.2.2.2.2.2.size)⟩
      ·have hji : ¬ (j : Int) < l' := by omega
       obtain rfl : j = l' := by omega
       have HY := hid (show ∀ k, k < t + 1 → valOk (M.ns.getD (P.getD k 0).toNat default).si (M.ns.getD (P.getD k 0).toNat default).sw (zss.getD k []) from fun k hk => by
        rcases Nat.lt_or_ge k t with h | h
        ·exact HA.out k h
        ·obtain rfl : k = t := by omega
         rw [HND.out]; exact ⟨by rw [hzl]; exact HC.out, fun y hy => HAJ.out y (by omega)⟩)
       go_wp2_with fail
       go_roundw
       case rel => exact ⟨t + 1, by omega, by go_num, HY.out, HX5.out.below HBj.out⟩
       case measure => simp [intOf] <;> omega
    ·have HC := hid (show ¬ FitsP P M.ns zss from fun h => hc (by have := (h.2 t (by omega)).1; rw [HND.out] at this; rw [← hzl]; exact this))
     go_wp2_with fail
     go_ret
     exact ⟨BoolIs.no HC.out, HX3.out.2.2.2.2.2.2.trans (Below.mono (show Below w3.heap.size w3 _ by go_grown) HX3.out.2.2.2.2.2.2.size)⟩
   ·have hti : ¬ (t : Int) < len := by omega
    obtain rfl : t = len := by omega
    go_wp2_with fail
    go_ret
    exact ⟨BoolIs.yes ⟨by omega, fun k hk => HA.out k (by omega)⟩, HBk.out⟩
 ·have hli : ¬ (len : Int) = pl := by omega
  have HC := hid (show ¬ FitsP P M.ns zss from fun h => hl (by have := h.1; omega))
  go_wp2_with fail
  go_ret
  exact ⟨BoolIs.no HC.out, by go_grown⟩
end Go.Proofs.YtlcgimadbpagfaaGreat
namespace Go.Proofs.YtlcgimadbpagfaaGreat
open Go.Lib
open Go.ChangeShapes Go.WideShapes Go.ChangeAt Go.RowKit Go.Maps
set_option linter.unusedVariables false
set_option maxRecDepth 100000
def FitM (kind : Int) (M : MD) (zss : List (List Int)) : Prop := CodeIs M 0 ∧ FitsN kind M.ns zss
def FitQ (kind : Int) (M : MD) (zss : List (List Int)) (w : World) (e : Ending) (w' : World) : Prop := BoolIs (FitM kind M zss) e ∧ Below w.heap.size w w'
set_option maxHeartbeats 4000000 in
theorem c_StateFitsI {B : Nat} {s0 s1 s2 s3 s4 : SL} {M : MD} {a : Option Addr} {len cap : Nat} {zss : List (List Int)} (w : World) (hBw : B ≤ w.heap.size) (h : ModelAt B w s0 s1 s2 s3 s4 M) (hv : ValsAt B w a len cap zss) :
  Calls Tryz.prog 61 #[.agg (mcells s0 s1 s2 s3 s4).toArray, .slice a len cap] w (FitQ 36 M zss w) := by
 have HMA := hid h
 have HV := hid hv
 clear h hv
 simp only [mcells]
 go_enter Tryz.func61, Tryz.ntmps61
 go_upto_region 1 with fail
 refine code_gen (R := fun wb => Boxed s0 s1 s2 s3 s4 w wb) (Boxed.new _ _ _ _ _ _ _) ?_
 intro w0 hbox
 have HX0 := hid hbox
 obtain ⟨hlt, x0, x1, x2, x3, x4, hBx⟩ := hbox
 have hBk := Nat.le_trans hBw hBx.size
 have HM0 := hid (HMA.out.below (hBx.mono hBw))
 clear hBx
 go_wp2_with fail
 refine (c_ModelCodeI (B := B) (s0 := s0) (s1 := s1) (s2 := s2) (s3 := s3) (s4 := s4) w0 hBk HM0.out).mono ?_
 rintro e w1 ⟨c, rfl, hc, hq⟩
 have HX1 := hid (HX0.out.below hq)
 clear hq x0 x1 x2 x3 x4 hlt HM0 hBk
 by_cases hz : c = 0
 ·subst hz
  have HC := hid hc
  have h60 : s0.len ≤ 60 := by have h1 := code0_len hc; rw [HMA.out.ns.1] at h1; exact h1
  clear hc
  obtain ⟨hlt, x0, x1, x2, x3, x4, hBx⟩ := HX1.out
  have hBk := Nat.le_trans hBw hBx.size
  have HM := hid (HMA.out.below (hBx.mono hBw))
  have HV1 := hid (HV.out.below (hBx.mono hBw))
  have HBX := hid hBx
  clear hBx
  go_wp2_with fail
  refine (c_valuesFit (B := B) 36 w1 hBk HM.out.ns h60 HV1.out).mono ?_
  rintro e w2 ⟨⟨r, rfl, hr⟩, hq⟩
  have HR := hid hr
  have HB2 := hid (HBX.out.trans (hq.mono HBX.out.size))
  clear hr hq x0 x1 x2 x3 x4
  go_wp2_with fail
  go_ret
  exact ⟨⟨r, rfl, HR.out.trans ⟨fun h => ⟨HC.out, h⟩, fun h => h.2⟩⟩, HB2.out⟩
 ·have HC := hid (show ¬ CodeIs M 0 from fun h => hz (hc.inj h))
  clear hc
  go_wp2_with fail
  go_ret
  exact ⟨BoolIs.no (fun h => HC.out h.1), HX1.out.2.2.2.2.2.2⟩
set_option maxHeartbeats 4000000 in
theorem c_StateFitsS {B : Nat} {s0 s1 s2 s3 s4 : SL} {M : MD} {a : Option Addr} {len cap : Nat} {zss : List (List Int)} (w : World) (hBw : B ≤ w.heap.size) (h : ModelAt B w s0 s1 s2 s3 s4 M) (hv : ValsAt B w a len cap zss) :
  Calls Tryz.prog 42 #[.agg (mcells s0 s1 s2 s3 s4).toArray, .slice a len cap] w (FitQ 36 M zss w) := by
 have HMA := hid h
 have HV := hid hv
 clear h hv
 simp only [mcells]
 go_enter Tryz.func42, Tryz.ntmps42
 go_upto_region 1 with fail
 refine code_gen (R := fun wb => Boxed s0 s1 s2 s3 s4 w wb) (Boxed.new _ _ _ _ _ _ _) ?_
 intro w0 hbox
 obtain ⟨hlt, x0, x1, x2, x3, x4, hBx⟩ := hbox
 have hBk := Nat.le_trans hBw hBx.size
 have HM0 := hid (HMA.out.below (hBx.mono hBw))
 have HV0 := hid (HV.out.below (hBx.mono hBw))
 have HB0 := hid hBx
 clear hBx
 by_cases hC : CodeIs M 0
 ·have HC := hid hC
  have h60 : s0.len ≤ 60 := by have h1 := code0_len hC; rw [HMA.out.ns.1] at h1; exact h1
  clear hC
  refine wp_region_held_drew (S := (fun w' => w'.cell? ⟨w.heap.size, 0, none⟩ = some (.slice s0.a s0.len s0.cap) ∧ w'.cell? ⟨w.heap.size, 1, none⟩ = some (.slice s1.a s1.len s1.cap) ∧ w'.cell? ⟨w.heap.size, 2, none⟩ = some (.slice s2.a s2.len s2.cap) ∧ w'.cell? ⟨w.heap.size, 3, none⟩ = some (.slice s3.a s3.len s3.cap) ∧ w'.cell? ⟨w.heap.size, 4, none⟩ = some (.slice s4.a s4.len s4.cap))) (by kernel_rfl) ?_ (fun hHeld => ?_)
  ·exact ⟨keepc (by go_grown) hlt x0, keepc (by go_grown) hlt x1, keepc (by go_grown) hlt x2, keepc (by go_grown) hlt x3, keepc (by go_grown) hlt x4⟩
  refine tL 0 (some 5) ?_
  refine wpAnyH_ready (rs := [1]) (by kernel_rfl) (by simp) ?_
  refine .cons (o := _) rfl (fun K hK => ?_) .nil
  go_simp
  refine (c_ModelCodeS (B := B) (s0 := s0) (s1 := s1) (s2 := s2) (s3 := s3) (s4 := s4) _ (Nat.le_trans hBk (by go_size)) (HM0.out.below (Below.mono (show Below w0.heap.size w0 _ by go_grown) hBk))).mono ?_; rintro e w1 ⟨c, rfl, hc, hq⟩; have hb1 : Below w0.heap.size w0 w1 := bstep (by go_grown) (Nat.le_refl _) hq; clear hq; obtain rfl := hc.inj HC.out; clear hc
  (try go_wp2_with fail)
  (try clear hHeld)
  refine hK.out _ _ ?_ (fun hHeld => ?_)
  ·exact ⟨keepc (by go_grown) hlt x0, keepc (by go_grown) hlt x1, keepc (by go_grown) hlt x2, keepc (by go_grown) hlt x3, keepc (by go_grown) hlt x4⟩
  clear hK K
  (try simp only [Act.put, zq1, zq2, zq3])
  refine tL 2 (some 7) ?_
  refine tL 3 (some 8) ?_
  refine tL 4 (some 9) ?_
  refine tL 5 (some 10) ?_
  refine tL 7 (some 12) ?_
  refine wpAnyH_ready (rs := [6]) (by kernel_rfl) (by simp) ?_
  refine .cons (o := _) rfl (fun K hK => ?_) .nil
  go_simp
  refine (c_l2Places (B := B) (s0 := s0) (s1 := s1) (s2 := s2) (s3 := s3) (s4 := s4) 36 _ (Nat.le_trans hBk (by first | exact hb1.size | go_size)) (HM0.out.below (Below.mono (show Below w0.heap.size w0 _ by go_grown) hBk)) h60).mono ?_; rintro e w2 ⟨v, rfl, ho, hq⟩; have hb2 : Below w0.heap.size w0 w2 := bstep (by go_grown) (Nat.le_refl _) hq; obtain ⟨pa, pcap, rfl, -⟩ := own_form ho; have HP := hid (own_ints ho rfl); clear ho hq
  (try go_wp2_with fail)
  (try clear hHeld)
  refine hK.out _ _ ?_ (fun hHeld => ?_)
  ·exact ⟨keepc (by go_grown) hlt x0, keepc (by go_grown) hlt x1, keepc (by go_grown) hlt x2, keepc (by go_grown) hlt x3, keepc (by go_grown) hlt x4⟩
  clear hK K
  (try simp only [Act.put, zq1, zq2, zq3])
  refine wpAnyH_ready (rs := [8]) (by kernel_rfl) (by simp) ?_
  refine .cons (o := _) rfl (fun K hK => ?_) .nil
  go_simp
  refine (c_l4Fits (B := w2.heap.size) (s0 := s0) (s1 := s1) (s2 := s2) (s3 := s3) (s4 := s4) w2 (Nat.le_refl _) ((HM0.out.below (hb2.mono hBk)).mono (Nat.le_trans hBk hb2.size)) HP.out (fun k hk => by have := plcs_at hk; rw [HMA.out.ns.1] at this; rw [HMA.out.ns.1]; exact this) ((HV0.out.below (hb2.mono hBk)).mono (Nat.le_trans hBk hb2.size))).mono ?_; rintro e w3 ⟨⟨r, rfl, hr⟩, hq⟩; have hb3 : Below w0.heap.size w0 w3 := bstep (by go_grown) (Nat.le_refl _) hq; have HR := hid hr; clear hq hr
  (try go_wp2_with fail)
  (try clear hHeld)
  refine hK.out _ _ ?_ (fun hHeld => ?_)
  ·exact ⟨keepc (by go_grown) hlt x0, keepc (by go_grown) hlt x1, keepc (by go_grown) hlt x2, keepc (by go_grown) hlt x3, keepc (by go_grown) hlt x4⟩
  clear hK K
  (try simp only [Act.put, zq1, zq2, zq3])
  refine tL 9 (some 14) ?_
  refine tL 10 (some 4) ?_
  refine wpAnyH_done (by kernel_rfl) ?_ _
  clear hHeld
  go_wp2_with fail
  go_ret
  exact ⟨⟨r, rfl, HR.out.trans ⟨fun h => ⟨HC.out, h⟩, fun h => h.2⟩⟩, HB0.out.trans (Below.mono (show Below w0.heap.size w0 _ by go_grown) HB0.out.size)⟩
 ·have HC := hid hC
  clear hC
  refine wp_region_held_drew (S := (fun w' => w'.cell? ⟨w.heap.size, 0, none⟩ = some (.slice s0.a s0.len s0.cap) ∧ w'.cell? ⟨w.heap.size, 1, none⟩ = some (.slice s1.a s1.len s1.cap) ∧ w'.cell? ⟨w.heap.size, 2, none⟩ = some (.slice s2.a s2.len s2.cap) ∧ w'.cell? ⟨w.heap.size, 3, none⟩ = some (.slice s3.a s3.len s3.cap) ∧ w'.cell? ⟨w.heap.size, 4, none⟩ = some (.slice s4.a s4.len s4.cap))) (by kernel_rfl) ?_ (fun hHeld => ?_)
  ·exact ⟨keepc (by go_grown) hlt x0, keepc (by go_grown) hlt x1, keepc (by go_grown) hlt x2, keepc (by go_grown) hlt x3, keepc (by go_grown) hlt x4⟩
  refine tL 0 (some 5) ?_
  refine wpAnyH_ready (rs := [1]) (by kernel_rfl) (by simp) ?_
  refine .cons (o := _) rfl (fun K hK => ?_) .nil
  go_simp
  refine (c_ModelCodeS (B := B) (s0 := s0) (s1 := s1) (s2 := s2) (s3 := s3) (s4 := s4) _ (Nat.le_trans hBk (by go_size)) (HM0.out.below (Below.mono (show Below w0.heap.size w0 _ by go_grown) hBk))).mono ?_; rintro e w1 ⟨c, rfl, hc, hq⟩; have hb1 : Below w0.heap.size w0 w1 := bstep (by go_grown) (Nat.le_refl _) hq; clear hq; have hcz : ¬ c = 0 := fun h => HC.out (h ▸ hc); clear hc
  (try go_wp2_with fail)
  (try clear hHeld)
  refine hK.out _ _ ?_ (fun hHeld => ?_)
  ·exact ⟨keepc (by go_grown) hlt x0, keepc (by go_grown) hlt x1, keepc (by go_grown) hlt x2, keepc (by go_grown) hlt x3, keepc (by go_grown) hlt x4⟩
  clear hK K
  (try simp only [Act.put, zq1, zq2, zq3])
  refine tL 2 (some 7) ?_
  (try (generalize hg : (c == 0) = bb; obtain rfl : bb = false := by rw [← hg]; simp [hcz]))
  refine tL 3 (some 8) ?_
  refine tU 4 (some 9) ?_
  refine tU 5 (some 10) ?_
  refine tU 6 (some 11) ?_
  refine tU 7 (some 12) ?_
  refine tU 8 (some 13) ?_
  refine tL 9 (some 14) ?_
  refine tL 10 (some 4) ?_
  refine wpAnyH_done (by kernel_rfl) ?_ _
  clear hHeld
  go_wp2_with fail
  go_ret
  exact ⟨BoolIs.no (fun h => HC.out h.1), HB0.out.trans (Below.mono (show Below w0.heap.size w0 _ by go_grown) HB0.out.size)⟩
end Go.Proofs.YtlcgimadbpagfaaGreat
