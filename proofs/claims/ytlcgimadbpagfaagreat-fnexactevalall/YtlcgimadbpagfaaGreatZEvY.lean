/-
  Parts: EvY, EvU, shortened.
-/
import Derived.Test.YtlcgimadbpagfaaGreatZEvR
namespace Go.Proofs.YtlcgimadbpagfaaGreat
open Go.Lib
open Go.ChangeShapes Go.WideShapes Go.ChangeAt Go.RowKit Go.Maps
set_option linter.unusedVariables false
set_option maxRecDepth 100000
set_option maxHeartbeats 4000000 in
theorem c_markModelB {T : Nat → Prop} {g0 g1 g2 g3 g4 l0 l1 l2 l3 l4 : Nat} (t0 : T g0) (t1 : T g1) (t2 : T g2) (t3 : T g3) (t4 : T g4) (k0 : l0 ≤ 1048576) (k1 : l1 ≤ 1048576) (k2 : l2 ≤ 1048576) (k3 : l3 ≤ 1048576) (k4 : l4 ≤ 1048576)
  (w : World) (hTw : ¬ T w.heap.size) (hr : ModelRoom w g0 g1 g2 g3 g4 l0 l1 l2 l3 l4) :
  Calls Tryz.prog 17 #[.agg (mcells (slOf g0 l0) (slOf g1 l1) (slOf g2 l2) (slOf g3 l3) (slOf g4 l4)).toArray, .int .i64 1] w fun e w' => (∃ r : Int, e = .returned (.int .i64 r) ∧ 0 ≤ r ∧ r ≤ 33554432) ∧ Touch T w w' := by
 have HR := hid hr
 clear hr
 simp only [mcells, slOf]
 go_enter Tryz.func17, Tryz.ntmps17
 go_upto_region 1 with fail
 refine code_gen (R := fun wb => wb.heap[w.heap.size]? = some (.cells #[.slice (some ⟨g0, 0, none⟩) l0 l0, .slice (some ⟨g1, 0, none⟩) l1 l1, .slice (some ⟨g2, 0, none⟩) l2 l2, .slice (some ⟨g3, 0, none⟩) l3 l3, .slice (some ⟨g4, 0, none⟩) l4 l4] 35 (0, 0)) ∧ Touch T w wb ∧ ModelRoom wb g0 g1 g2 g3 g4 l0 l1 l2 l3 l4) ⟨(MapKept.heap_alloc _ _).1, (Touch.refl T w).below (by go_grown), ModelRoom.below HR.out (by go_grown)⟩ ?_
 rintro w0 ⟨hb, ht, hr⟩
 have HB0 := hid hb
 have HT0 := hid ht
 have HR0 := hid hr
 clear hb ht hr HR
 have x := cell_of_block (i := 0) HB0.out (v := .slice (some ⟨g0, 0, none⟩) l0 l0) rfl
 go_wp2_with fail
 refine (c_markNodeS t0 _ (by omega) (by omega) k0 w0 HR0.out.1).mono ?_
 rintro e w1 ⟨rfl, ht⟩
 have HT1 := hid (HT0.out.trans ht)
 have HB1 := hid ((ht.block _ (Array.getElem?_eq_some_iff.1 HB0.out).1 hTw).trans HB0.out)
 have HR1 := hid (ModelRoom.touch HR0.out ht)
 clear ht x
 have x := cell_of_block (i := 1) HB1.out (v := .slice (some ⟨g1, 0, none⟩) l1 l1) rfl
 go_wp2_with fail
 refine (c_markBindS t1 _ (by omega) (by omega) k1 w1 HR1.out.2.1).mono ?_
 rintro e w2 ⟨rfl, ht⟩
 have HT2 := hid (HT1.out.trans ht)
 have HB2 := hid ((ht.block _ (Array.getElem?_eq_some_iff.1 HB1.out).1 hTw).trans HB1.out)
 have HR2 := hid (ModelRoom.touch HR1.out ht)
 clear ht x
 have x := cell_of_block (i := 2) HB2.out (v := .slice (some ⟨g2, 0, none⟩) l2 l2) rfl
 go_wp2_with fail
 refine (c_markBindS t2 _ (by omega) (by omega) k2 w2 HR2.out.2.2.1).mono ?_
 rintro e w3 ⟨rfl, ht⟩
 have HT3 := hid (HT2.out.trans ht)
 have HB3 := hid ((ht.block _ (Array.getElem?_eq_some_iff.1 HB2.out).1 hTw).trans HB2.out)
 have HR3 := hid (ModelRoom.touch HR2.out ht)
 clear ht x
 have x := cell_of_block (i := 3) HB3.out (v := .slice (some ⟨g3, 0, none⟩) l3 l3) rfl
 go_wp2_with fail
 refine (c_markIntS t3 _ (by omega) (by omega) k3 w3 HR3.out.2.2.2.1).mono ?_
 rintro e w4 ⟨rfl, ht, -, -⟩
 have HT4 := hid (HT3.out.trans ht)
 have HB4 := hid ((ht.block _ (Array.getElem?_eq_some_iff.1 HB3.out).1 hTw).trans HB3.out)
 have HR4 := hid (ModelRoom.touch HR3.out ht)
 clear ht x
 have x := cell_of_block (i := 4) HB4.out (v := .slice (some ⟨g4, 0, none⟩) l4 l4) rfl
 go_wp2_with fail
 refine (c_markIntS t4 _ (by omega) (by omega) k4 w4 HR4.out.2.2.2.2).mono ?_
 rintro e w5 ⟨rfl, ht, -, -⟩
 have HT5 := hid (HT4.out.trans ht)
 have HB5 := hid ((ht.block _ (Array.getElem?_eq_some_iff.1 HB4.out).1 hTw).trans HB4.out)
 clear ht x
 go_wp2_with fail
 go_ret
 exact ⟨⟨_, rfl, by omega, by omega⟩, HT5.out⟩
set_option maxHeartbeats 4000000 in
theorem c_markIntSB {T : Nat → Prop} {g len cap : Nat} (hT : T g) (k : Int) (hk0 : 0 ≤ k) (hk1 : k ≤ 4611686018427387904) (hlen : len ≤ 1048576) (w : World) (h : Room w g (len * 1)) :
  Calls Tryz.prog 35 #[.slice (some ⟨g, 0, none⟩) len cap, .int .i64 k] w fun e w' => e = .returned (.int .i64 (k + len)) ∧ Touch T w w' ∧ g < w'.heap.size ∧ ∀ t : Nat, t < len → w'.cell? ⟨g, t, none⟩ = some (.int .i64 (k + t)) := by
 have HR := hid h
 clear h
 go_enter Tryz.func35, Tryz.ntmps35
 go_wp2_with fail
 go_loopw [1, 5] (fun kk i wr => ∃ j : Nat, j ≤ len ∧ i = .int .i64 j ∧ kk = .int .i64 (k + j) ∧ Touch T w wr ∧ Room wr g (len * 1) ∧ ∀ t : Nat, t < j → wr.cell? ⟨g, t, none⟩ = some (.int .i64 (k + t))) (fun _ i _ => len - (intOf i).toNat)
 case atStart => exact ⟨0, by omega, rfl, by go_num, Touch.refl _ _, HR.out, fun t h => by omega⟩
 case round =>
  obtain ⟨j, hj, rfl, rfl, ht, hr, hc⟩ := hrel
  have HT0 := hid ht
  have HR0 := hid hr
  have HC := hid hc
  clear ht hr hc HR
  by_cases hjl : j < len
  ·have hji : (j : Int) < len := by omega
   have hw0 : wrap64 (k + (j : Int) + 1) = k + (j : Int) + 1 := IntWalk.wrap64_in _ (by omega)
   obtain ⟨⟨v0, d0⟩, f0⟩ := room_at HR0.out (show j < len * 1 by omega)
   have HC1 := hid (show ∀ t : Nat, t < j + 1 → (wr.setCell ⟨g, j, none⟩ (.int .i64 (k + j))).cell? ⟨g, t, none⟩ = some (.int .i64 (k + t)) from fun t ht => by
    by_cases e : t = j
    ·subst e; exact World.cell?_setCell_same _ _ _ d0
    ·exact (World.cell?_setCell_other _ _ _ _ (by simp <;> omega)).trans (HC.out t (by omega)))
   go_wp2_with fail
   go_roundw
   case rel => exact ⟨j + 1, by omega, by go_num, by go_num, Touch.set hT HT0.out _ _, HR0.out.set _ _, HC1.out⟩
   case measure => simp [intOf] <;> omega
  ·have hji : ¬ (j : Int) < len := by omega
   obtain rfl : j = len := by omega
   go_wp2_with fail
   go_ret
   exact ⟨rfl, HT0.out, HR0.out.1, HC.out⟩
theorem OwnV.touch {T : Nat → Prop} {base g : Nat} {w w' : World} {gs : List Nat} {zss : List (List Int)} (h : OwnV base w g gs zss) (ht : Touch T w w') (hg : base ≤ g) (hT : ∀ x, base ≤ x → ¬ T x) : OwnV base w' g gs zss :=
 ⟨h.len, h.L.heap (fun x hb hl _ => ht.block x hl (hT x hb)) ht.size, h.ne, Nat.lt_of_lt_of_le h.lt ht.size, fun j hj => (World.cell?_of_block (w := w) (w' := w') (a := ⟨g, j, none⟩) (ht.block g h.lt (hT g hg))).trans (h.hd j hj)⟩
theorem OwnV.up {g : Nat} {w : World} {gs : List Nat} {zss : List (List Int)} (h : OwnV g w g gs zss) : ∀ x ∈ gs, g < x ∧ x < w.heap.size := fun x hx => by
 obtain ⟨h1, h2⟩ := h.L.lt hx
 refine ⟨?_, h2⟩
 rcases Nat.lt_or_ge g x with h3 | h3
 ·exact h3
 ·obtain rfl : x = g := by omega
  exact absurd hx h.ne
set_option maxHeartbeats 4000000 in
theorem c_markValueC {T : Nat → Prop} {base g : Nat} {gs : List Nat} {zss : List (List Int)} (hT : ∀ x ∈ gs, T x) (hg : ¬ T g) (k : Int) (hk0 : 0 ≤ k) (hk1 : k ≤ 4398046511104) (hl : zss.length ≤ 1048576) (hz : ∀ j, j < zss.length → ((zss.getD j []).length : Int) ≤ 1048576) (w : World) (h : OwnV base w g gs zss) :
  Calls Tryz.prog 18 #[.slice (some ⟨g, 0, none⟩) zss.length zss.length, .int .i64 k] w fun e w' => (∃ r : Int, e = .returned (.int .i64 r) ∧ 0 ≤ r ∧ r ≤ k + 1099511627776) ∧ Touch T w w' := by
 have HO := hid h
 have HZ := hid hz
 have HT := hid hT
 clear h hz hT
 go_enter Tryz.func18, Tryz.ntmps18
 go_wp2_with fail
 go_loopw [1, 5] (fun kk i wr => ∃ (j : Nat) (z : Int), j ≤ zss.length ∧ i = .int .i64 j ∧ kk = .int .i64 z ∧ k ≤ z ∧ z ≤ k + 1048576 * j ∧ Touch T w wr) (fun _ i _ => zss.length - (intOf i).toNat)
 case atStart => exact ⟨0, k, by omega, rfl, rfl, by omega, by omega, Touch.refl _ _⟩
 case round =>
  obtain ⟨j, z, hj, rfl, rfl, hz0, hz1, ht⟩ := hrel
  have HTW := hid ht
  clear ht
  by_cases hjl : j < zss.length
  ·have hji : (j : Int) < zss.length := by omega
   have hjg : j < gs.length := by rw [HO.out.len]; exact hjl
   have c0 := (World.cell?_of_block (w := w) (w' := wr) (a := ⟨g, j, none⟩) (HTW.out.block g HO.out.lt hg)).trans (HO.out.hd j hjl)
   have hro := HTW.out.room _ _ (HO.out.L.2 j hjg).2.room
   have htx := HT.out _ (List.getElem_mem hjg)
   have hzl := HZ.out j hjl
   have hgx : gs.getD j 0 = gs[j] := by simp [List.getD, hjg]
   unfold hdr at c0
   rw [hgx] at c0
   obtain ⟨x, hx⟩ : ∃ x, gs[j] = x := ⟨_, rfl⟩
   obtain ⟨n, hn⟩ : ∃ n, (zss.getD j []).length = n := ⟨_, rfl⟩
   rw [hx] at c0 hro htx
   rw [hn] at c0 hro hzl
   have HRO := hid hro
   have HTX := hid htx
   clear hro htx hgx hx hn
   go_wp2_with fail
   refine (c_markIntSB HTX.out z (by omega) (by omega) (by omega) wr (by rw [Nat.mul_one]; exact HRO.out)).mono ?_
   rintro e w1 ⟨rfl, ht1, -, -⟩
   have HQ := hid (HTW.out.trans ht1)
   clear ht1 c0
   go_wp2_with fail
   go_roundw
   case rel => exact ⟨j + 1, _, by omega, by go_num, rfl, by omega, by omega, HQ.out⟩
   case measure => simp [intOf] <;> omega
  ·have hji : ¬ (j : Int) < zss.length := by omega
   obtain rfl : j = zss.length := by omega
   go_wp2_with fail
   go_ret
   exact ⟨⟨z, rfl, by omega, by omega⟩, HTW.out⟩
end Go.Proofs.YtlcgimadbpagfaaGreat
namespace Go.Proofs.YtlcgimadbpagfaaGreat
open Go.Lib
open Go.ChangeShapes Go.WideShapes Go.ChangeAt Go.RowKit Go.Maps
set_option linter.unusedVariables false
set_option maxRecDepth 100000
def AllIs (M : MD) (ss is zss : List (List Int)) : Prop := (¬ MomP M ss is ∧ zss = []) ∨ (MomP M ss is ∧ zss = evs M.ns ss is M.ns.length)
theorem AllIs.inj {M : MD} {ss is zss yss : List (List Int)} (h : AllIs M ss is zss) (k : AllIs M ss is yss) : zss = yss := by
 rcases h with ⟨h1, h2⟩ | ⟨h1, h2⟩ <;> rcases k with ⟨k1, k2⟩ | ⟨k1, k2⟩
 ·rw [h2, k2]
 ·exact absurd k1 h1
 ·exact absurd h1 k1
 ·rw [h2, k2]
theorem AllIs.small {M : MD} {ss is zss : List (List Int)} (h : AllIs M ss is zss) : zss.length ≤ 60 ∧ ∀ zs ∈ zss, zs.length ≤ 4 := by
 rcases h with ⟨h1, rfl⟩ | ⟨⟨h1, h3⟩, rfl⟩
 ·exact ⟨by decide, by simp⟩
 ·refine ⟨by rw [evs_len]; exact code0_len h1.1, fun zs hz => ?_⟩
  obtain ⟨i, hi, rfl⟩ := List.getElem_of_mem hz
  rw [evs_len] at hi
  have := fit_len (evs_fit (code0_parts h1.1).1 h1.2 h3.2 (Nat.le_refl _)) i hi
  simpa [List.getD, evs_len, hi] using this
def AllQ (M : MD) (ss is : List (List Int)) (w : World) (e : Ending) (w' : World) : Prop := ∃ v xs, e = .returned v ∧ ValRow w.heap.size w' v xs ∧ AllIs M ss is (xs.map Prod.snd) ∧ Below w.heap.size w w'
set_option maxHeartbeats 16000000 in
theorem c_EvalAllS {B : Nat} {s0 s1 s2 s3 s4 : SL} {M : MD} {sa ia : Option Addr} {sl sc il ic : Nat} {ss is : List (List Int)} (w : World) (hBw : B ≤ w.heap.size) (h : ModelAt B w s0 s1 s2 s3 s4 M) (hs : ValsAt B w sa sl sc ss) (hi : ValsAt B w ia il ic is) :
  Calls Tryz.prog 11 #[.agg (mcells s0 s1 s2 s3 s4).toArray, .slice sa sl sc, .slice ia il ic] w (AllQ M ss is w) := by
 have HMA := hid h
 have HS := hid hs
 have HI := hid hi
 clear h hs hi
 simp only [mcells]
 go_enter Tryz.func11, Tryz.ntmps11
 go_upto_region 1 with fail
 refine code_gen (R := fun wb => Boxed s0 s1 s2 s3 s4 w wb) (Boxed.new _ _ _ _ _ _ _) ?_
 intro w0 hbox
 have HX0 := hid hbox
 obtain ⟨hlt, x0, x1, x2, x3, x4, hBx⟩ := hbox
 have hBk := Nat.le_trans hBw hBx.size
 have HM0 := hid (HMA.out.below (hBx.mono hBw))
 have HS0 := hid (HS.out.below (hBx.mono hBw))
 have HI0 := hid (HI.out.below (hBx.mono hBw))
 have HBX := hid hBx
 clear hBx
 by_cases hf : FitM 36 M ss
 rotate_left
 ·have HF := hid hf
  clear hf
  go_wp2_with fail
  refine (c_StateFitsS (B := B) (s0 := s0) (s1 := s1) (s2 := s2) (s3 := s3) (s4 := s4) w0 hBk HM0.out HS0.out).mono ?_
  rintro e w1 ⟨hb, hq⟩
  have HQ1 := hid hq
  obtain rfl := boolIs_f HF.out hb
  have hlt1 := Nat.lt_of_lt_of_le hlt hq.size
  have y0 := keepc hq hlt x0
  have y1 := keepc hq hlt x1
  have y2 := keepc hq hlt x2
  have y3 := keepc hq hlt x3
  have y4 := keepc hq hlt x4
  clear hb hq x0 x1 x2 x3 x4
  go_wp2_with fail
  go_ret
  exact ⟨_, [], rfl, ValRow.nil _ _, .inl ⟨fun h => HF.out h.1, rfl⟩, HBX.out.trans (HQ1.out.mono HBX.out.size)⟩
 have HF := hid hf
 by_cases hi : FitM 35 M is
 rotate_left
 ·have HFI := hid hi
  clear hi hf
  go_wp2_with fail
  refine (c_StateFitsS (B := B) (s0 := s0) (s1 := s1) (s2 := s2) (s3 := s3) (s4 := s4) w0 hBk HM0.out HS0.out).mono ?_
  rintro e w1 ⟨hb, hq⟩
  have HQ1 := hid hq
  obtain rfl := boolIs_t HF.out hb
  have hlt1 := Nat.lt_of_lt_of_le hlt hq.size
  have y0 := keepc hq hlt x0
  have y1 := keepc hq hlt x1
  have y2 := keepc hq hlt x2
  have y3 := keepc hq hlt x3
  have y4 := keepc hq hlt x4
  clear hb hq x0 x1 x2 x3 x4
  go_wp2_with fail
  refine (c_InputFitsS (B := B) (s0 := s0) (s1 := s1) (s2 := s2) (s3 := s3) (s4 := s4) w1 (Nat.le_trans hBk HQ1.out.size) (HM0.out.below (HQ1.out.mono hBk)) (HI0.out.below (HQ1.out.mono hBk))).mono ?_
  rintro e w2 ⟨hb, hq⟩
  have HQ2 := hid (HQ1.out.trans (hq.mono HQ1.out.size))
  obtain rfl := boolIs_f HFI.out hb
  have hlt2 := Nat.lt_of_lt_of_le hlt1 hq.size
  have u0 := keepc hq hlt1 y0
  have u1 := keepc hq hlt1 y1
  have u2 := keepc hq hlt1 y2
  have u3 := keepc hq hlt1 y3
  have u4 := keepc hq hlt1 y4
  clear hb hq y0 y1 y2 y3 y4
  go_wp2_with fail
  go_ret
  exact ⟨_, [], rfl, ValRow.nil _ _, .inl ⟨fun h => HFI.out h.2, rfl⟩, HBX.out.trans (HQ2.out.mono HBX.out.size)⟩
 have HFI := hid hi
 have HC := hid hf.1
 have HF36 := hid hf.2
 have HF35 := hid hi.2
 have HG := hid (code0_parts hf.1).1
 have hn0 : M.ns.length = s0.len := HMA.out.ns.1
 have h60 : s0.len ≤ 60 := by have h1 := code0_len hf.1; omega
 have HN0 := hid hn0
 clear hn0
 clear hf hi
 go_wp2_with fail
 refine (c_StateFitsS (B := B) (s0 := s0) (s1 := s1) (s2 := s2) (s3 := s3) (s4 := s4) w0 hBk HM0.out HS0.out).mono ?_
 rintro e w1 ⟨hb, hq⟩
 have HQ1 := hid hq
 obtain rfl := boolIs_t HF.out hb
 have hlt1 := Nat.lt_of_lt_of_le hlt hq.size
 have y0 := keepc hq hlt x0
 have y1 := keepc hq hlt x1
 have y2 := keepc hq hlt x2
 have y3 := keepc hq hlt x3
 have y4 := keepc hq hlt x4
 clear hb hq x0 x1 x2 x3 x4
 go_wp2_with fail
 refine (c_InputFitsS (B := B) (s0 := s0) (s1 := s1) (s2 := s2) (s3 := s3) (s4 := s4) w1 (Nat.le_trans hBk HQ1.out.size) (HM0.out.below (HQ1.out.mono hBk)) (HI0.out.below (HQ1.out.mono hBk))).mono ?_
 rintro e w2 ⟨hb, hq⟩
 have HQ2 := hid (HQ1.out.trans (hq.mono HQ1.out.size))
 obtain rfl := boolIs_t HFI.out hb
 have hlt2 := Nat.lt_of_lt_of_le hlt1 hq.size
 have u0 := keepc hq hlt1 y0
 have u1 := keepc hq hlt1 y1
 have u2 := keepc hq hlt1 y2
 have u3 := keepc hq hlt1 y3
 have u4 := keepc hq hlt1 y4
 clear hb hq y0 y1 y2 y3 y4
 go_upto_region 3 with fail
 go_wp2_with fail
 refine (c_l4All (B := B) (s0 := s0) (s1 := s1) (s2 := s2) (s3 := s3) (s4 := s4) w2 (Nat.le_trans hBk HQ2.out.size) ((HM0.out.below (HQ2.out.mono hBk))) ((HS0.out.below (HQ2.out.mono hBk))) ((HI0.out.below (HQ2.out.mono hBk))) h60 HG.out HF36.out HF35.out).mono ?_
 rintro e w3 ⟨v, xs, rfl, hv, hx, hq'⟩
 obtain ⟨va, vc, rfl⟩ := hv.len
 have hq : Below w2.heap.size w2 w3 := ⟨hq'.os, hq'.tape, hq'.output, hq'.size, hq'.block⟩
 have HV := hid (show ValRow w2.heap.size w3 (.slice va xs.length vc) xs from hv)
 have HXE := hid hx
 have HR3 := hid hq
 have HQ3 := hid (HQ2.out.trans (hq.mono HQ2.out.size))
 clear hv hx hq hq'
 go_wp2_with fail
 go_ret
 exact ⟨_, xs, rfl, HV.out.mono (Nat.le_trans HBX.out.size HQ2.out.size), .inr ⟨⟨HF.out, HFI.out⟩, HXE.out⟩, HBX.out.trans (HQ3.out.mono HBX.out.size)⟩
set_option maxHeartbeats 16000000 in
theorem c_EvalAllI {B : Nat} {s0 s1 s2 s3 s4 : SL} {M : MD} {sa ia : Option Addr} {sl sc il ic : Nat} {ss is : List (List Int)} (w : World) (hBw : B ≤ w.heap.size) (h : ModelAt B w s0 s1 s2 s3 s4 M) (hs : ValsAt B w sa sl sc ss) (hi : ValsAt B w ia il ic is) :
  Calls Tryz.prog 14 #[.agg (mcells s0 s1 s2 s3 s4).toArray, .slice sa sl sc, .slice ia il ic] w (AllQ M ss is w) := by
 have HMA := hid h
 have HS := hid hs
 have HI := hid hi
 clear h hs hi
 simp only [mcells]
 go_enter Tryz.func14, Tryz.ntmps14
 go_upto_region 1 with fail
 refine code_gen (R := fun wb => Boxed s0 s1 s2 s3 s4 w wb) (Boxed.new _ _ _ _ _ _ _) ?_
 intro w0 hbox
 have HX0 := hid hbox
 obtain ⟨hlt, x0, x1, x2, x3, x4, hBx⟩ := hbox
 have hBk := Nat.le_trans hBw hBx.size
 have HM0 := hid (HMA.out.below (hBx.mono hBw))
 have HS0 := hid (HS.out.below (hBx.mono hBw))
 have HI0 := hid (HI.out.below (hBx.mono hBw))
 have HBX := hid hBx
 clear hBx
 go_wp2_with fail
 refine (c_momentFits (B := B) (s0 := s0) (s1 := s1) (s2 := s2) (s3 := s3) (s4 := s4) w0 hBk HM0.out HS0.out HI0.out).mono ?_
 rintro e w1 ⟨hb, hq⟩
 have HQ1 := hid hq
 have hB1 : B ≤ w1.heap.size := Nat.le_trans hBk hq.size
 have hlt1 : w.heap.size < w1.heap.size := Nat.lt_of_lt_of_le hlt hq.size
 by_cases hm : MomP M ss is
 rotate_left
 ·obtain rfl := boolIs_f hm hb
  have HMO := hid hm
  clear hm hb hq
  go_wp2_with fail
  go_ret
  exact ⟨_, [], rfl, ValRow.nil _ _, .inl ⟨HMO.out, rfl⟩, HBX.out.trans (HQ1.out.mono HBX.out.size)⟩
 obtain rfl := boolIs_t hm hb
 have HMO := hid hm
 obtain ⟨hf, hi⟩ := hm
 have HC := hid hf.1
 have HF36 := hid hf.2
 have HF35 := hid hi.2
 have HG := hid (code0_parts hf.1).1
 have hn0 : M.ns.length = s0.len := HMA.out.ns.1
 have h60 : s0.len ≤ 60 := by have h1 := code0_len hf.1; omega
 have HN0 := hid hn0
 clear hn0
 have HM1 := hid (HM0.out.below (hq.mono hBk))
 have HS1 := hid (HS0.out.below (hq.mono hBk))
 have HI1 := hid (HI0.out.below (hq.mono hBk))
 have y0 := keepc hq hlt x0
 have y1 := keepc hq hlt x1
 have y2 := keepc hq hlt x2
 have y3 := keepc hq hlt x3
 have y4 := keepc hq hlt x4
 clear hf hi hb hq x0 x1 x2 x3 x4
 go_upto_region 3 with fail
 go_wp2_with fail
 refine (c_reckonAll (B := B) w1 hB1 (HM1.out).ns (HS1.out) (HI1.out) h60 HG.out HF36.out HF35.out).mono ?_
 rintro e w3 ⟨v, xs, rfl, hv, hx, hq'⟩
 obtain ⟨va, vc, rfl⟩ := hv.len
 have hq : Below w1.heap.size w1 w3 := ⟨hq'.os, hq'.tape, hq'.output, hq'.size, hq'.block⟩
 have HV := hid (show ValRow w1.heap.size w3 (.slice va xs.length vc) xs from hv)
 have HXE := hid hx
 have HQ3 := hid hq
 clear hv hx hq hq'
 go_wp2_with fail
 go_ret
 exact ⟨_, xs, rfl, HV.out.mono (Nat.le_of_lt hlt1), .inr ⟨HMO.out, HXE.out⟩, (HBX.out.trans (HQ1.out.mono HBX.out.size)).trans (HQ3.out.mono (Nat.le_of_lt hlt1))⟩
end Go.Proofs.YtlcgimadbpagfaaGreat
