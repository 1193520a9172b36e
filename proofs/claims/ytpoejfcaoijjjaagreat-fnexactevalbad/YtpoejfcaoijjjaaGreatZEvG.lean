/-
  Parts: EvG, shortened.
-/
import Derived.Test.YtpoejfcaoijjjaaGreatZEvR
namespace Go.Proofs.YtpoejfcaoijjjaaGreat
open Go.Lib
open Go.ChangeShapes Go.WideShapes Go.ChangeAt Go.RowKit Go.Maps
set_option linter.unusedVariables false
set_option maxRecDepth 100000
set_option maxHeartbeats 4000000 in
theorem c_fb1 {B g : Nat} {va : Option Addr} {vl vc : Nat} {vs : List (List Int)} (q : Nat) (w : World) (hBw : B ≤ w.heap.size) (hgw : g < w.heap.size) (hg : w.cell? ⟨g, 0, none⟩ = some (.slice va vl vc)) (hv : ValsAt B w va vl vc vs) (hq : q < vl) (h0 : 0 < (vs.getD q []).length) :
  Calls Tryz.prog 167 #[.int .i64 q, .pointer (some ⟨g, 0, none⟩)] w fun e w' => e = .returned (.bool ((vs.getD q []).getD 0 0 == 1)) ∧ Below w.heap.size w w' := by
 obtain ⟨a', l', c', b2, o2, rfl, hbB2, c2, hzs⟩ := val_at hv hq
 have HZS := hid hzs
 have hqi : (q : Int) < vl := by omega
 clear hzs hv
 go_enter Tryz.func167, Tryz.ntmps167
 go_wp2_with fail
 refine (c_isOne (B := B) w hBw HZS.out h0).mono ?_
 rintro e w1 ⟨rfl, hq1⟩
 have HQ := hid hq1
 clear hq1 hg c2
 go_wp2_with fail
 go_ret
 exact ⟨rfl, HQ.out⟩
set_option maxHeartbeats 8000000 in
theorem c_IndexFunc {B g : Nat} {ha va : Option Addr} {hl hc vl vc : Nat} {hs : List Int} {vs : List (List Int)} (w : World) (hBw : B ≤ w.heap.size) (hgw : g < w.heap.size) (hg : w.cell? ⟨g, 0, none⟩ = some (.slice va vl vc)) (hh : IntsAt B w ha hl hc hs) (hv : ValsAt B w va vl vc vs) (hp : PropIn vl hs vs) :
  Calls Tryz.prog 166 #[.slice ha hl hc, .func (.func 167) #[] #[.pointer (some ⟨g, 0, none⟩)]] w (BadP hs vs w) := by
 have HH := hid hh
 have HV := hid hv
 have HP := hid hp
 have HGC := hid hg
 have hhl : hs.length = hl := hh.1
 have HHL := hid hhl
 have hm := Nat.le_trans hh.2.1 hh.2.2.1
 unfold maxLen at hm
 clear hh hv hp hhl hg
 go_enter Tryz.func166, Tryz.ntmps166
 go_wp2_with fail
 go_loopw [8] (fun i wr => ∃ k : Nat, k ≤ hl ∧ i = .int .i64 k ∧ (∀ t, t < k → bitAt hs vs t ≠ 1) ∧ Below w.heap.size w wr) (fun i _ => hl - (intOf i).toNat)
 case atStart => exact ⟨0, by omega, rfl, fun t h => by omega, Below.refl _ _⟩
 case round =>
  obtain ⟨k, hk, rfl, hno, hB⟩ := hrel
  have HNO := hid hno
  have HB := hid hB
  clear hno hB
  by_cases hkl : k < hl
  ·have hki : (k : Int) < hl := by omega
   obtain ⟨z, b1, o1, hz, -, rfl, hbB1, c1⟩ := int_at (HH.out.below (HB.out.mono hBw)) hkl
   obtain ⟨p0, p1, p2, p3⟩ := HP.out k (by have := HHL.out; omega)
   rw [hz] at p0 p1 p2 p3
   obtain ⟨q, rfl⟩ : ∃ q : Nat, z = q := ⟨z.toNat, by omega⟩
   rw [Int.toNat_natCast] at p1 p2 p3
   have HBT := hid (show bitAt hs vs k = (vs.getD q []).getD 0 0 by unfold bitAt; rw [hz, Int.toNat_natCast])
   have HC := hid (c_fb1 (B := B) q wr (by have := HB.out.size; omega) (by have := HB.out.size; omega) ((HB.out.cell (p := ⟨g, 0, none⟩) hgw).trans HGC.out) (HV.out.below (HB.out.mono hBw)) p1 p2)
   clear hz p3 p2
   cases ho : ((vs.getD q []).getD 0 0 == 1) with
   | true =>
    rw [ho] at HC
    have HO := hid (show (vs.getD q []).getD 0 0 = 1 by simpa using ho)
    clear ho
    go_wp2_with fail
    refine HC.out.mono ?_
    rintro e w1 ⟨rfl, hq1⟩
    have HB1 := hid (HB.out.trans (hq1.mono HB.out.size))
    clear hq1 c1
    go_wp2_with fail
    go_ret
    exact ⟨_, rfl, .inr ⟨k, by have := HHL.out; omega, rfl, by rw [HBT.out]; exact HO.out, HNO.out⟩, HB1.out⟩
   | false =>
    rw [ho] at HC
    have HO := hid (show ¬ (vs.getD q []).getD 0 0 = 1 by simpa using ho)
    clear ho
    go_wp2_with fail
    refine HC.out.mono ?_
    rintro e w1 ⟨rfl, hq1⟩
    have HB1 := hid (HB.out.trans (hq1.mono HB.out.size))
    clear hq1 c1
    go_wp2_with fail
    go_roundw
    case rel => exact ⟨k + 1, by omega, by go_num, fun t ht => by
     rcases Nat.lt_or_ge t k with h | h
     ·exact HNO.out t h
     ·obtain rfl : t = k := by omega
      rw [HBT.out]; exact HO.out, HB1.out⟩
    case measure => simp [intOf] <;> omega
  ·have hki : ¬ (k : Int) < hl := by omega
   go_wp2_with fail
   go_ret
   exact ⟨_, rfl, .inl ⟨rfl, fun t ht => HNO.out t (by have := HHL.out; omega)⟩, HB.out⟩
set_option maxHeartbeats 4000000 in
theorem c_firstBad {B : Nat} {ha va : Option Addr} {hl hc vl vc : Nat} {hs : List Int} {vs : List (List Int)} (w : World) (hBw : B ≤ w.heap.size) (hh : IntsAt B w ha hl hc hs) (hv : ValsAt B w va vl vc vs) (hp : PropIn vl hs vs) :
  Calls Tryz.prog 94 #[.slice ha hl hc, .slice va vl vc] w (BadP hs vs w) := by
 have HH := hid hh
 have HV := hid hv
 have HP := hid hp
 clear hh hv hp
 have hmf : ∀ (fn : Fn) (first cap : Array Value) (w : World), (Instr.makeFunc fn first cap).run Tryz.prog w = .ok (.func fn first cap) w := fun _ _ _ _ => rfl
 go_enter Tryz.func94, Tryz.ntmps94
 go_upto_region 1 with fail
 refine code_gen (R := fun wb => wb.cell? ⟨w.heap.size, 0, none⟩ = some (.slice va vl vc) ∧ w.heap.size < wb.heap.size ∧ Below w.heap.size w wb) ⟨by simp, by simp, by go_grown⟩ ?_
 rintro w0 ⟨x0, hlt, hB0⟩
 have HB := hid hB0
 have HH0 := hid (HH.out.below (hB0.mono hBw))
 have HV0 := hid (HV.out.below (hB0.mono hBw))
 have X0 := hid x0
 clear hB0
 go_wp2_with fail
 refine (c_IndexFunc (B := B) (g := w.heap.size) w0 (Nat.le_trans hBw HB.out.size) hlt X0.out HH0.out HV0.out HP.out).mono ?_
 rintro e w1 ⟨r, rfl, hr, hq⟩
 have HR := hid hr
 have HE := hid (HB.out.trans (hq.mono HB.out.size))
 clear hr hq x0 hmf
 go_wp2_with fail
 go_ret
 exact ⟨r, rfl, HR.out, HE.out⟩
def BadOf (M : MD) (ss is : List (List Int)) (r : Int) : Prop := (¬ MomP M ss is ∧ r = -1) ∨ (MomP M ss is ∧ BadIs M.bads (evs M.ns ss is M.ns.length) r)
theorem BadOf.inj {M : MD} {ss is : List (List Int)} {r q : Int} (h : BadOf M ss is r) (k : BadOf M ss is q) : r = q := by
 rcases h with ⟨h1, h2⟩ | ⟨h1, h2⟩ <;> rcases k with ⟨k1, k2⟩ | ⟨k1, k2⟩
 ·rw [h2, k2]
 ·exact absurd k1 h1
 ·exact absurd h1 k1
 ·exact h2.inj k2
def BadQ (M : MD) (ss is : List (List Int)) (w : World) (e : Ending) (w' : World) : Prop := ∃ r, e = .returned (.int .i64 r) ∧ BadOf M ss is r ∧ Below w.heap.size w w'
set_option maxHeartbeats 16000000 in
theorem c_EvalBadS {B : Nat} {s0 s1 s2 s3 s4 : SL} {M : MD} {sa ia : Option Addr} {sl sc il ic : Nat} {ss is : List (List Int)} (w : World) (hBw : B ≤ w.heap.size) (h : ModelAt B w s0 s1 s2 s3 s4 M) (hs : ValsAt B w sa sl sc ss) (hi : ValsAt B w ia il ic is) :
  Calls Tryz.prog 28 #[.agg (mcells s0 s1 s2 s3 s4).toArray, .slice sa sl sc, .slice ia il ic] w (BadQ M ss is w) := by
 have HMA := hid h
 have HS := hid hs
 have HI := hid hi
 clear h hs hi
 simp only [mcells]
 go_enter Tryz.func28, Tryz.ntmps28
 go_upto_region 1 with fail
 refine code_gen (R := fun wb => Boxed s0 s1 s2 s3 s4 w wb) (Boxed.new _ _ _ _ _ _ _) ?_
 intro w0 hbox
 have HX0 := hid hbox
 obtain ⟨hlt, x0, x1, x2, x3, x4, hBx⟩ := hbox
 have hBk := Nat.le_trans hBw hBx.size
 have HM0 := hid (HMA.out.below (hBx.mono hBw))
 have HS0 := hid (HS.out.below (hBx.mono hBw))
 have HI0 := hid (HI.out.below (hBx.mono hBw))
 have HBX := hid hBx
 clear hBx
 by_cases hf : FitM 36 M ss
 rotate_left
 ·have HF := hid hf
  clear hf
  go_wp2_with fail
  refine (c_StateFitsS (B := B) (s0 := s0) (s1 := s1) (s2 := s2) (s3 := s3) (s4 := s4) w0 hBk HM0.out HS0.out).mono ?_
  rintro e w1 ⟨hb, hq⟩
  have HQ1 := hid hq
  obtain rfl := boolIs_f HF.out hb
  have hlt1 := Nat.lt_of_lt_of_le hlt hq.size
  have y0 := keepc hq hlt x0
  have y1 := keepc hq hlt x1
  have y2 := keepc hq hlt x2
  have y3 := keepc hq hlt x3
  have y4 := keepc hq hlt x4
  clear hb hq x0 x1 x2 x3 x4
  go_wp2_with fail
  go_ret
  exact ⟨_, rfl, .inl ⟨fun h => HF.out h.1, rfl⟩, HBX.out.trans (HQ1.out.mono HBX.out.size)⟩
 have HF := hid hf
 by_cases hi : FitM 35 M is
 rotate_left
 ·have HFI := hid hi
  clear hi hf
  go_wp2_with fail
  refine (c_StateFitsS (B := B) (s0 := s0) (s1 := s1) (s2 := s2) (s3 := s3) (s4 := s4) w0 hBk HM0.out HS0.out).mono ?_
  rintro e w1 ⟨hb, hq⟩
  have HQ1 := hid hq
  obtain rfl := boolIs_t HF.out hb
  have hlt1 := Nat.lt_of_lt_of_le hlt hq.size
  have y0 := keepc hq hlt x0
  have y1 := keepc hq hlt x1
  have y2 := keepc hq hlt x2
  have y3 := keepc hq hlt x3
  have y4 := keepc hq hlt x4
  clear hb hq x0 x1 x2 x3 x4
  go_wp2_with fail
  refine (c_InputFitsS (B := B) (s0 := s0) (s1 := s1) (s2 := s2) (s3 := s3) (s4 := s4) w1 (Nat.le_trans hBk HQ1.out.size) (HM0.out.below (HQ1.out.mono hBk)) (HI0.out.below (HQ1.out.mono hBk))).mono ?_
  rintro e w2 ⟨hb, hq⟩
  have HQ2 := hid (HQ1.out.trans (hq.mono HQ1.out.size))
  obtain rfl := boolIs_f HFI.out hb
  have hlt2 := Nat.lt_of_lt_of_le hlt1 hq.size
  have u0 := keepc hq hlt1 y0
  have u1 := keepc hq hlt1 y1
  have u2 := keepc hq hlt1 y2
  have u3 := keepc hq hlt1 y3
  have u4 := keepc hq hlt1 y4
  clear hb hq y0 y1 y2 y3 y4
  go_wp2_with fail
  go_ret
  exact ⟨_, rfl, .inl ⟨fun h => HFI.out h.2, rfl⟩, HBX.out.trans (HQ2.out.mono HBX.out.size)⟩
 have HFI := hid hi
 have HC := hid hf.1
 have HF36 := hid hf.2
 have HF35 := hid hi.2
 have HG := hid (code0_parts hf.1).1
 have hn0 : M.ns.length = s0.len := HMA.out.ns.1
 have h60 : s0.len ≤ 60 := by have h1 := code0_len hf.1; omega
 have HPI := hid (show PropIn s0.len M.bads (evs M.ns ss is M.ns.length) from by have := props_in HG.out HF36.out HF35.out (code0_parts hf.1).2.1; rw [← hn0]; exact this)
 have HN0 := hid hn0
 clear hn0
 clear hf hi
 go_wp2_with fail
 refine (c_StateFitsS (B := B) (s0 := s0) (s1 := s1) (s2 := s2) (s3 := s3) (s4 := s4) w0 hBk HM0.out HS0.out).mono ?_
 rintro e w1 ⟨hb, hq⟩
 have HQ1 := hid hq
 obtain rfl := boolIs_t HF.out hb
 have hlt1 := Nat.lt_of_lt_of_le hlt hq.size
 have y0 := keepc hq hlt x0
 have y1 := keepc hq hlt x1
 have y2 := keepc hq hlt x2
 have y3 := keepc hq hlt x3
 have y4 := keepc hq hlt x4
 clear hb hq x0 x1 x2 x3 x4
 go_wp2_with fail
 refine (c_InputFitsS (B := B) (s0 := s0) (s1 := s1) (s2 := s2) (s3 := s3) (s4 := s4) w1 (Nat.le_trans hBk HQ1.out.size) (HM0.out.below (HQ1.out.mono hBk)) (HI0.out.below (HQ1.out.mono hBk))).mono ?_
 rintro e w2 ⟨hb, hq⟩
 have HQ2 := hid (HQ1.out.trans (hq.mono HQ1.out.size))
 obtain rfl := boolIs_t HFI.out hb
 have hlt2 := Nat.lt_of_lt_of_le hlt1 hq.size
 have u0 := keepc hq hlt1 y0
 have u1 := keepc hq hlt1 y1
 have u2 := keepc hq hlt1 y2
 have u3 := keepc hq hlt1 y3
 have u4 := keepc hq hlt1 y4
 clear hb hq y0 y1 y2 y3 y4
 go_upto_region 3 with fail
 refine wp_region_held_drew (S := (fun w' => w'.cell? ⟨w.heap.size, 0, none⟩ = some (.slice s0.a s0.len s0.cap) ∧ w'.cell? ⟨w.heap.size, 1, none⟩ = some (.slice s1.a s1.len s1.cap) ∧ w'.cell? ⟨w.heap.size, 2, none⟩ = some (.slice s2.a s2.len s2.cap) ∧ w'.cell? ⟨w.heap.size, 3, none⟩ = some (.slice s3.a s3.len s3.cap) ∧ w'.cell? ⟨w.heap.size, 4, none⟩ = some (.slice s4.a s4.len s4.cap))) (by kernel_rfl) ?_ (fun hHeld => ?_)
 ·first | exact ⟨u0, u1, u2, u3, u4⟩ | exact ⟨keepc HR4.out hlt2 u0, keepc HR4.out hlt2 u1, keepc HR4.out hlt2 u2, keepc HR4.out hlt2 u3, keepc HR4.out hlt2 u4⟩ | exact ⟨keepc HR3.out hlt2 u0, keepc HR3.out hlt2 u1, keepc HR3.out hlt2 u2, keepc HR3.out hlt2 u3, keepc HR3.out hlt2 u4⟩
 refine tL 0 (some 17) ?_
 refine tL 1 (some 18) ?_
 refine tL 2 (some 19) ?_
 refine tL 3 (some 20) ?_
 refine wpAnyH_ready (rs := [4]) (by kernel_rfl) (by simp) ?_
 refine AllReadyH.cons (o := _) rfl (fun K hK => ?_) AllReadyH.nil
 go_simp
 refine (c_l4All (B := B) (s0 := s0) (s1 := s1) (s2 := s2) (s3 := s3) (s4 := s4) w2.drew (Nat.le_trans hBk HQ2.out.size) ((HM0.out.below (HQ2.out.mono hBk)).below (Below.refl B w2).drew) ((HS0.out.below (HQ2.out.mono hBk)).below (Below.refl B w2).drew) ((HI0.out.below (HQ2.out.mono hBk)).below (Below.refl B w2).drew) h60 HG.out HF36.out HF35.out).mono ?_
 rintro e w3 ⟨v, xs, rfl, hv, hx, hq'⟩
 obtain ⟨va, vc, rfl⟩ := hv.len
 have hq : Below w2.heap.size w2 w3 := ⟨hq'.os, hq'.tape, hq'.output, hq'.size, hq'.block⟩
 have hxl : xs.length = s0.len := by have := congrArg List.length hx; rw [evs_len] at this; have := HN0.out; simp at *; omega
 have HVL := hid (show ValsAt w3.heap.size w3 va xs.length vc (evs M.ns ss is M.ns.length) from hx ▸ hv.vals rfl)
 rw [hxl] at HVL ⊢
 have HR3 := hid hq
 have HQ3 := hid (HQ2.out.trans (hq.mono HQ2.out.size))
 clear hv hx hq hq' hxl
 (try go_wp2_with fail)
 (try clear hHeld)
 refine hK.out _ _ ?_ (fun hHeld => ?_)
 ·first | exact ⟨u0, u1, u2, u3, u4⟩ | exact ⟨keepc HR4.out hlt2 u0, keepc HR4.out hlt2 u1, keepc HR4.out hlt2 u2, keepc HR4.out hlt2 u3, keepc HR4.out hlt2 u4⟩ | exact ⟨keepc HR3.out hlt2 u0, keepc HR3.out hlt2 u1, keepc HR3.out hlt2 u2, keepc HR3.out hlt2 u3, keepc HR3.out hlt2 u4⟩
 clear hK K
 (try simp only [Act.put, List.setIfInBounds_toArray, List.set_cons_zero, List.set_cons_succ])
 refine wpAnyH_ready (rs := [5]) (by kernel_rfl) (by simp) ?_
 refine AllReadyH.cons (o := _) rfl (fun K hK => ?_) AllReadyH.nil
 go_simp
 refine (c_l4Bad (B := w3.heap.size) (s0 := s0) (s1 := s1) (s2 := s2) (s3 := s3) (s4 := s4) w3 (Nat.le_refl _) ((HM0.out.below (HQ3.out.mono hBk)).mono (Nat.le_trans hBk HQ3.out.size)) HVL.out HPI.out).mono ?_
 rintro e w4 ⟨r, rfl, hr, hq⟩
 have HRR := hid hr
 have HR4 := hid (HR3.out.trans (hq.mono HR3.out.size))
 have HQ4 := hid (HQ3.out.trans (hq.mono HQ3.out.size))
 clear hr hq
 (try go_wp2_with fail)
 (try clear hHeld)
 refine hK.out _ _ ?_ (fun hHeld => ?_)
 ·first | exact ⟨u0, u1, u2, u3, u4⟩ | exact ⟨keepc HR4.out hlt2 u0, keepc HR4.out hlt2 u1, keepc HR4.out hlt2 u2, keepc HR4.out hlt2 u3, keepc HR4.out hlt2 u4⟩ | exact ⟨keepc HR3.out hlt2 u0, keepc HR3.out hlt2 u1, keepc HR3.out hlt2 u2, keepc HR3.out hlt2 u3, keepc HR3.out hlt2 u4⟩
 clear hK K
 (try simp only [Act.put, List.setIfInBounds_toArray, List.set_cons_zero, List.set_cons_succ])
 refine tL 6 (some 6) ?_
 refine wpAnyH_done (by kernel_rfl) ?_ _
 clear hHeld
 go_wp2_with fail
 go_ret
 exact ⟨r, rfl, .inr ⟨⟨HF.out, HFI.out⟩, HRR.out⟩, HBX.out.trans (HQ4.out.mono HBX.out.size)⟩
set_option maxHeartbeats 16000000 in
theorem c_EvalBadI {B : Nat} {s0 s1 s2 s3 s4 : SL} {M : MD} {sa ia : Option Addr} {sl sc il ic : Nat} {ss is : List (List Int)} (w : World) (hBw : B ≤ w.heap.size) (h : ModelAt B w s0 s1 s2 s3 s4 M) (hs : ValsAt B w sa sl sc ss) (hi : ValsAt B w ia il ic is) :
  Calls Tryz.prog 29 #[.agg (mcells s0 s1 s2 s3 s4).toArray, .slice sa sl sc, .slice ia il ic] w (BadQ M ss is w) := by
 have HMA := hid h
 have HS := hid hs
 have HI := hid hi
 clear h hs hi
 simp only [mcells]
 go_enter Tryz.func29, Tryz.ntmps29
 go_upto_region 1 with fail
 refine code_gen (R := fun wb => Boxed s0 s1 s2 s3 s4 w wb) (Boxed.new _ _ _ _ _ _ _) ?_
 intro w0 hbox
 have HX0 := hid hbox
 obtain ⟨hlt, x0, x1, x2, x3, x4, hBx⟩ := hbox
 have hBk := Nat.le_trans hBw hBx.size
 have HM0 := hid (HMA.out.below (hBx.mono hBw))
 have HS0 := hid (HS.out.below (hBx.mono hBw))
 have HI0 := hid (HI.out.below (hBx.mono hBw))
 have HBX := hid hBx
 clear hBx
 go_wp2_with fail
 refine (c_momentFits (B := B) (s0 := s0) (s1 := s1) (s2 := s2) (s3 := s3) (s4 := s4) w0 hBk HM0.out HS0.out HI0.out).mono ?_
 rintro e w1 ⟨hb, hq⟩
 have HQ1 := hid hq
 have hB1 : B ≤ w1.heap.size := Nat.le_trans hBk hq.size
 have hlt1 : w.heap.size < w1.heap.size := Nat.lt_of_lt_of_le hlt hq.size
 by_cases hm : MomP M ss is
 rotate_left
 ·obtain rfl := boolIs_f hm hb
  have HMO := hid hm
  clear hm hb hq
  go_wp2_with fail
  go_ret
  exact ⟨_, rfl, .inl ⟨HMO.out, rfl⟩, HBX.out.trans (HQ1.out.mono HBX.out.size)⟩
 obtain rfl := boolIs_t hm hb
 have HMO := hid hm
 obtain ⟨hf, hi⟩ := hm
 have HC := hid hf.1
 have HF36 := hid hf.2
 have HF35 := hid hi.2
 have HG := hid (code0_parts hf.1).1
 have hn0 : M.ns.length = s0.len := HMA.out.ns.1
 have h60 : s0.len ≤ 60 := by have h1 := code0_len hf.1; omega
 have HPI := hid (show PropIn s0.len M.bads (evs M.ns ss is M.ns.length) from by have := props_in HG.out HF36.out HF35.out (code0_parts hf.1).2.1; rw [← hn0]; exact this)
 have HN0 := hid hn0
 clear hn0
 have HM1 := hid (HM0.out.below (hq.mono hBk))
 have HS1 := hid (HS0.out.below (hq.mono hBk))
 have HI1 := hid (HI0.out.below (hq.mono hBk))
 have y0 := keepc hq hlt x0
 have y1 := keepc hq hlt x1
 have y2 := keepc hq hlt x2
 have y3 := keepc hq hlt x3
 have y4 := keepc hq hlt x4
 clear hf hi hb hq x0 x1 x2 x3 x4
 go_upto_region 3 with fail
 refine wp_region_held_drew (S := (fun w' => w'.cell? ⟨w.heap.size, 0, none⟩ = some (.slice s0.a s0.len s0.cap) ∧ w'.cell? ⟨w.heap.size, 1, none⟩ = some (.slice s1.a s1.len s1.cap) ∧ w'.cell? ⟨w.heap.size, 2, none⟩ = some (.slice s2.a s2.len s2.cap) ∧ w'.cell? ⟨w.heap.size, 3, none⟩ = some (.slice s3.a s3.len s3.cap) ∧ w'.cell? ⟨w.heap.size, 4, none⟩ = some (.slice s4.a s4.len s4.cap))) (by kernel_rfl) ?_ (fun hHeld => ?_)
 ·first | exact ⟨y0, y1, y2, y3, y4⟩ | exact ⟨keepc HQ4.out hlt1 y0, keepc HQ4.out hlt1 y1, keepc HQ4.out hlt1 y2, keepc HQ4.out hlt1 y3, keepc HQ4.out hlt1 y4⟩ | exact ⟨keepc HQ3.out hlt1 y0, keepc HQ3.out hlt1 y1, keepc HQ3.out hlt1 y2, keepc HQ3.out hlt1 y3, keepc HQ3.out hlt1 y4⟩
 refine tL 0 (some 12) ?_
 refine tL 1 (some 13) ?_
 refine tL 2 (some 14) ?_
 refine tL 3 (some 15) ?_
 refine tL 4 (some 16) ?_
 refine tL 5 (some 17) ?_
 refine wpAnyH_ready (rs := [6]) (by kernel_rfl) (by simp) ?_
 refine AllReadyH.cons (o := _) rfl (fun K hK => ?_) AllReadyH.nil
 go_simp
 refine (c_reckonAll (B := B) w1.drew hB1 (HM1.out.below (Below.refl B w1).drew).ns (HS1.out.below (Below.refl B w1).drew) (HI1.out.below (Below.refl B w1).drew) h60 HG.out HF36.out HF35.out).mono ?_
 rintro e w3 ⟨v, xs, rfl, hv, hx, hq'⟩
 obtain ⟨va, vc, rfl⟩ := hv.len
 have hq : Below w1.heap.size w1 w3 := ⟨hq'.os, hq'.tape, hq'.output, hq'.size, hq'.block⟩
 have hxl : xs.length = s0.len := by have := congrArg List.length hx; rw [evs_len] at this; have := HN0.out; simp at *; omega
 have HVL := hid (show ValsAt w3.heap.size w3 va xs.length vc (evs M.ns ss is M.ns.length) from hx ▸ hv.vals rfl)
 rw [hxl] at HVL ⊢
 have HQ3 := hid hq
 clear hv hx hq hq' hxl
 (try go_wp2_with fail)
 (try clear hHeld)
 refine hK.out _ _ ?_ (fun hHeld => ?_)
 ·first | exact ⟨y0, y1, y2, y3, y4⟩ | exact ⟨keepc HQ4.out hlt1 y0, keepc HQ4.out hlt1 y1, keepc HQ4.out hlt1 y2, keepc HQ4.out hlt1 y3, keepc HQ4.out hlt1 y4⟩ | exact ⟨keepc HQ3.out hlt1 y0, keepc HQ3.out hlt1 y1, keepc HQ3.out hlt1 y2, keepc HQ3.out hlt1 y3, keepc HQ3.out hlt1 y4⟩
 clear hK K
 (try simp only [Act.put, List.setIfInBounds_toArray, List.set_cons_zero, List.set_cons_succ])
 refine wpAnyH_ready (rs := [7]) (by kernel_rfl) (by simp) ?_
 refine AllReadyH.cons (o := _) rfl (fun K hK => ?_) AllReadyH.nil
 go_simp
 refine (c_firstBad (B := w3.heap.size) w3 (Nat.le_refl _) ((HM1.out.bads.below (HQ3.out.mono hB1)).mono (Nat.le_trans hB1 HQ3.out.size)) HVL.out HPI.out).mono ?_
 rintro e w4 ⟨r, rfl, hr, hq⟩
 have HR := hid hr
 have HQ4 := hid (HQ3.out.trans (hq.mono HQ3.out.size))
 clear hr hq
 (try go_wp2_with fail)
 (try clear hHeld)
 refine hK.out _ _ ?_ (fun hHeld => ?_)
 ·first | exact ⟨y0, y1, y2, y3, y4⟩ | exact ⟨keepc HQ4.out hlt1 y0, keepc HQ4.out hlt1 y1, keepc HQ4.out hlt1 y2, keepc HQ4.out hlt1 y3, keepc HQ4.out hlt1 y4⟩ | exact ⟨keepc HQ3.out hlt1 y0, keepc HQ3.out hlt1 y1, keepc HQ3.out hlt1 y2, keepc HQ3.out hlt1 y3, keepc HQ3.out hlt1 y4⟩
 clear hK K
 (try simp only [Act.put, List.setIfInBounds_toArray, List.set_cons_zero, List.set_cons_succ])
 refine tL 8 (some 6) ?_
 refine wpAnyH_done (by kernel_rfl) ?_ _
 clear hHeld
 go_wp2_with fail
 go_ret
 exact ⟨r, rfl, .inr ⟨HMO.out, HR.out⟩, (HBX.out.trans (HQ1.out.mono HBX.out.size)).trans (HQ4.out.mono (Nat.le_of_lt hlt1))⟩
end Go.Proofs.YtpoejfcaoijjjaaGreat
