/-
  Parts: EvW, EvX, shortened.
-/
import Derived.Test.YtlcgimadbpagfaaGreatZEvR
namespace Go.Proofs.YtlcgimadbpagfaaGreat
open Go.Lib
open Go.ChangeShapes Go.WideShapes Go.ChangeAt Go.RowKit Go.Maps
set_option linter.unusedVariables false
set_option maxRecDepth 100000
def bndN : List BD → Int → Int
 | [], _ => -1
 | b :: bs, p => if b.st = p then b.nd else bndN bs p
theorem bnd_cases : ∀ (bs : List BD) (p : Int), (bndN bs p = -1 ∧ ∀ t, t < bs.length → stAt bs t ≠ p) ∨ ∃ i, i < bs.length ∧ (∀ t, t < i → stAt bs t ≠ p) ∧ stAt bs i = p ∧ bndN bs p = (bs.getD i default).nd := by
 intro bs p
 induction bs with
 | nil => exact .inl ⟨rfl, fun t h => by simp at h⟩
 | cons b bs ih =>
  rw [bndN]
  by_cases hb : b.st = p
  ·rw [if_pos hb]; exact .inr ⟨0, by simp, fun t h => by omega, hb, rfl⟩
  ·rw [if_neg hb]
   have hz : ∀ t, (∀ u, u < t → stAt bs u ≠ p) → ∀ u, u < t + 1 → stAt (b :: bs) u ≠ p := fun t h u hu => by
    cases u with
    | zero => exact hb
    | succ u => exact h u (by omega)
   rcases ih with ⟨h1, h2⟩ | ⟨i, h1, h2, h3, h4⟩
   ·exact .inl ⟨h1, fun t ht => hz _ h2 t (by simpa using ht)⟩
   ·exact .inr ⟨i + 1, by simpa using h1, hz _ h2, h3, h4⟩
theorem bnd_hit {bs : List BD} {p : Int} {i : Nat} (hi : i < bs.length) (hno : ∀ t, t < i → stAt bs t ≠ p) (h : stAt bs i = p) : bndN bs p = (bs.getD i default).nd := by
 rcases bnd_cases bs p with ⟨-, h2⟩ | ⟨j, h1, h2, h3, h4⟩
 ·exact absurd h (h2 i hi)
 ·rcases Nat.lt_trichotomy i j with e | e | e
  ·exact absurd h (h2 i e)
  ·rw [e]; exact h4
  ·exact absurd h3 (hno j e)
theorem bnd_miss {bs : List BD} {p : Int} (hno : ∀ t, t < bs.length → stAt bs t ≠ p) : bndN bs p = -1 := by
 rcases bnd_cases bs p with ⟨h1, -⟩ | ⟨j, h1, h2, h3, h4⟩
 ·exact h1
 ·exact absurd h3 (hno j h1)
def nextsP (xs : List BD) (vs af : List (List Int)) : Prop := ∀ t, t < xs.length → af.getD (stAt xs t).toNat [] = vs.getD (xs.getD t default).nd.toNat []
def nextsS (P : List Int) (xs : List BD) (vs ts : List (List Int)) : Prop := ∀ i, i < P.length → 0 ≤ bndN xs (P.getD i 0) → ts.getD i [] = vs.getD (bndN xs (P.getD i 0)).toNat []
theorem place_of {kind : Int} {ns : List ND} {p : Int} (h0 : 0 ≤ p) (h1 : p < ns.length) (hk : (ns.getD p.toNat default).kind = kind) : ∃ i, i < (plcs kind ns ns.length).length ∧ (plcs kind ns ns.length).getD i 0 = p := by
 obtain ⟨a, b⟩ := plcs_last (n := ns.length) hk (by omega)
 exact ⟨_, a, by rw [b]; omega⟩
theorem lay_at {kind : Int} {ns : List ND} {vs : List (List Int)} {i : Nat} (hi : i < (plcs kind ns ns.length).length) :
  (lay (plcs kind ns ns.length) vs (List.replicate ns.length []) (plcs kind ns ns.length).length).getD ((plcs kind ns ns.length).getD i 0).toNat [] = vs.getD i [] :=
 lay_hit hi rfl (by rw [List.length_replicate]; have := plcs_at hi; omega) (fun u hu hne e => hne (plcs_inj hu hi e))
theorem nexts_iff {M : MD} (hb : ∀ t, t < M.xs.length → boundN M.ns (M.xs.getD t default)) (htw : ¬ againN M.xs) (vs ts : List (List Int)) :
  nextsP M.xs vs (lay (plcs 36 M.ns M.ns.length) ts (List.replicate M.ns.length []) (plcs 36 M.ns M.ns.length).length) ↔ nextsS (plcs 36 M.ns M.ns.length) M.xs vs ts := by
 constructor
 ·intro h i hi h0
  rcases bnd_cases M.xs ((plcs 36 M.ns M.ns.length).getD i 0) with ⟨e, -⟩ | ⟨t, ht, -, hst, hnd⟩
  ·omega
  ·have := h t ht
   rw [hst, lay_at hi] at this
   rw [hnd]; exact this
 ·intro h t ht
  obtain ⟨⟨a0, a1⟩, ⟨b0, b1⟩, hk, hs⟩ := hb t ht
  obtain ⟨i, hi, hp⟩ := place_of a0 a1 hk
  have hp' : stAt M.xs t = (plcs 36 M.ns M.ns.length).getD i 0 := hp.symm
  have hbn : bndN M.xs ((plcs 36 M.ns M.ns.length).getD i 0) = (M.xs.getD t default).nd := bnd_hit ht (fun u hu e => htw ⟨t, u, hu, ht, by rw [e, hp']⟩) hp'
  have := h i hi (by rw [hbn]; exact b0)
  rw [hbn] at this
  rw [hp', lay_at hi]; exact this
theorem code0_all {M : MD} (h : CodeIs M 0) : ¬ twiceN M ∧ bindsN M := by
 cases h
 rename_i h1 h2 h3 h4 h5 h6
 exact ⟨h3, h4⟩
theorem step_in {M : MD} {ss is ts : List (List Int)} (hb : ∀ t, t < M.xs.length → boundN M.ns (M.xs.getD t default)) (hg : nodesGood M.ns) (hs : FitsN 36 M.ns ss) (hi : FitsN 35 M.ns is) (hft : FitsN 36 M.ns ts) {i : Nat} (hil : i < (plcs 36 M.ns M.ns.length).length) (h0 : 0 ≤ bndN M.xs ((plcs 36 M.ns M.ns.length).getD i 0)) :
  (bndN M.xs ((plcs 36 M.ns M.ns.length).getD i 0)).toNat < M.ns.length ∧ (ts.getD i []).length = ((evs M.ns ss is M.ns.length).getD (bndN M.xs ((plcs 36 M.ns M.ns.length).getD i 0)).toNat []).length := by
 rcases bnd_cases M.xs ((plcs 36 M.ns M.ns.length).getD i 0) with ⟨e, -⟩ | ⟨t, ht, -, hst, hnd⟩
 ·omega
 ·obtain ⟨⟨a0, a1⟩, ⟨b0, b1⟩, hk, hsrt⟩ := hb t ht
  rw [hnd]
  have hlt : (M.xs.getD t default).nd.toNat < M.ns.length := by omega
  refine ⟨hlt, ?_⟩
  have h1 := (hft.2 i (by rw [hft.1]; exact hil)).1
  have h2 := (evs_fit hg hs hi (Nat.le_refl _) _ hlt).1
  have hst' : (M.xs.getD t default).st = (plcs 36 M.ns M.ns.length).getD i 0 := hst
  rw [hst'] at hsrt
  have e1 : (M.ns.getD ((plcs 36 M.ns M.ns.length).getD i 0).toNat default).si = (M.ns.getD (M.xs.getD t default).nd.toNat default).si := congrArg Prod.fst hsrt
  have e2 : (M.ns.getD ((plcs 36 M.ns M.ns.length).getD i 0).toNat default).sw = (M.ns.getD (M.xs.getD t default).nd.toNat default).sw := congrArg Prod.snd hsrt
  rw [e1, e2, ← h2] at h1
  omega
def StepP (M : MD) (ss is ts : List (List Int)) : Prop := MomP M ss is ∧ FitM 36 M ts ∧ nextsS (plcs 36 M.ns M.ns.length) M.xs (evs M.ns ss is M.ns.length) ts
end Go.Proofs.YtlcgimadbpagfaaGreat
namespace Go.Proofs.YtlcgimadbpagfaaGreat
open Go.Lib
open Go.ChangeShapes Go.WideShapes Go.ChangeAt Go.RowKit Go.Maps
set_option linter.unusedVariables false
set_option maxRecDepth 100000
set_option maxHeartbeats 4000000 in
theorem c_l4Bound {B : Nat} {ba : Option Addr} {bl bc : Nat} {bs : List BD} (p : Int) (w : World) (hBw : B ≤ w.heap.size) (h : BindsAt B w ba bl bc bs) :
  Calls Tryz.prog 58 #[.slice ba bl bc, .int .i64 p] w fun e w' => e = .returned (.int .i64 (bndN bs p)) ∧ w' = w := by
 have HN := hid h
 have hbl : bs.length = bl := h.1
 have HBL := hid hbl
 have hm := Nat.le_trans h.2.1 h.2.2.1
 unfold maxLen at hm
 clear h hbl
 go_enter Tryz.func58, Tryz.ntmps58
 go_wp2_with fail
 go_loopw [5] (fun i wr => ∃ k : Nat, k ≤ bl ∧ i = .int .i64 k ∧ (∀ t, t < k → stAt bs t ≠ p) ∧ wr = w) (fun i _ => bl - (intOf i).toNat)
 case atStart => exact ⟨0, by omega, rfl, fun t h => by omega, rfl⟩
 case round =>
  obtain ⟨k, hk, rfl, hno, rfl⟩ := hrel
  have HNO := hid hno
  clear hno
  by_cases hkl : k < bl
  ·have hki : (k : Int) < bl := by omega
   obtain ⟨bd, b, off, hbd, -, rfl, hbB, c0, c1⟩ := bind_at HN.out hkl
   have HST := hid (show stAt bs k = bd.st by unfold stAt; rw [hbd])
   have HBD := hid hbd
   clear hbd
   cases he : (bd.st == p) with
   | true =>
    have HE := hid (show bndN bs p = bd.nd by rw [bnd_hit (by have := HBL.out; omega) HNO.out (by rw [HST.out]; simpa using he), ← HBD.out])
    go_wp2_with fail
    go_ret
    exact ⟨ret_int HE.out.symm, by first | rfl | trivial⟩
   | false =>
    have HE := hid (show stAt bs k ≠ p by rw [HST.out]; simpa using he)
    go_wp2_with fail
    go_roundw
    case rel => exact ⟨k + 1, by omega, by go_num, fun t ht => by
     rcases Nat.lt_or_ge t k with h | h
     ·exact HNO.out t h
     ·obtain rfl : t = k := by omega
      exact HE.out, by first | rfl | trivial⟩
    case measure => simp [intOf] <;> omega
  ·have hki : ¬ (k : Int) < bl := by omega
   have HE := hid (show bndN bs p = -1 from bnd_miss (fun t ht => HNO.out t (by have := HBL.out; omega)))
   go_wp2_with fail
   go_ret
   exact ⟨ret_int HE.out.symm, by first | rfl | trivial⟩
set_option maxHeartbeats 8000000 in
theorem c_nextsFit {B : Nat} {ba va aa : Option Addr} {bl bc vl vc al ac : Nat} {xs : List BD} {vs af : List (List Int)} (w : World) (hBw : B ≤ w.heap.size) (hb : BindsAt B w ba bl bc xs) (hv : ValsAt B w va vl vc vs) (ha : ValsAt B w aa al ac af)
  (hin : ∀ t, t < xs.length → (0 ≤ stAt xs t ∧ (stAt xs t).toNat < al) ∧ (0 ≤ (xs.getD t default).nd ∧ (xs.getD t default).nd.toNat < vl)) :
  Calls Tryz.prog 66 #[.slice ba bl bc, .slice va vl vc, .slice aa al ac] w fun e w' => BoolIs (nextsP xs vs af) e ∧ Below w.heap.size w w' := by
 have HN := hid hb
 have HV := hid hv
 have HA := hid ha
 have HIN := hid hin
 have hbl : xs.length = bl := hb.1
 have HBL := hid hbl
 have hm := Nat.le_trans hb.2.1 hb.2.2.1
 unfold maxLen at hm
 clear hb hv ha hin hbl
 go_enter Tryz.func66, Tryz.ntmps66
 go_wp2_with fail
 go_loopw [11] (fun i wr => ∃ k : Nat, k ≤ bl ∧ i = .int .i64 k ∧ (∀ t, t < k → af.getD (stAt xs t).toNat [] = vs.getD (xs.getD t default).nd.toNat []) ∧ Below w.heap.size w wr) (fun i _ => bl - (intOf i).toNat)
 case atStart => exact ⟨0, by omega, rfl, fun t h => by omega, Below.refl _ _⟩
 case round =>
  obtain ⟨k, hk, rfl, hno, hB⟩ := hrel
  have HNO := hid hno
  have HB := hid hB
  clear hno hB
  by_cases hkl : k < bl
  ·have hki : (k : Int) < bl := by omega
   obtain ⟨⟨st, nd⟩, b, off, hbd, -, rfl, hbB, c0, c1⟩ := bind_at (HN.out.below (HB.out.mono hBw)) hkl
   obtain ⟨⟨p0, p1⟩, q0, q1⟩ := HIN.out k (by have := HBL.out; omega)
   have HST := hid (show stAt xs k = st by unfold stAt; rw [← hbd])
   have HND := hid (show (xs.getD k default).nd = nd by rw [← hbd])
   rw [HST.out] at p0 p1
   rw [HND.out] at q0 q1
   simp only at c0 c1
   obtain ⟨p, rfl⟩ : ∃ p : Nat, st = p := ⟨st.toNat, by omega⟩
   obtain ⟨q, rfl⟩ : ∃ q : Nat, nd = q := ⟨nd.toNat, by omega⟩
   rw [Int.toNat_natCast] at p1 q1
   clear hbd p0 q0
   have hBr : B ≤ wr.heap.size := Nat.le_trans hBw HB.out.size
   obtain ⟨a1, l1, k1, b1, o1, rfl, hb1, d1, hz1⟩ := val_at (HA.out.below (HB.out.mono hBw)) p1
   obtain ⟨a2, l2, k2, b2, o2, rfl, hb2, d2, hz2⟩ := val_at (HV.out.below (HB.out.mono hBw)) q1
   have HZ1 := hid hz1
   have HZ2 := hid hz2
   have hpi : (p : Int) < al := by omega
   have hqi : (q : Int) < vl := by omega
   clear hz1 hz2
   go_upto_region 4 with fail
   refine code_gen (R := fun wb => wb.heap[wr.heap.size]? = some (.cells #[.int .i64 p, .int .i64 q] 117 (0, 0)) ∧ Below wr.heap.size wr wb) ⟨by first | exact (MapKept.heap_alloc _ _).1 | exact heap_alloc_new _ _, by go_grown⟩ ?_
   rintro w2 ⟨kb, hq2⟩
   have HB2 := hid (HB.out.trans (hq2.mono HB.out.size))
   have hl2 : wr.heap.size < w2.heap.size := (Array.getElem?_eq_some_iff.1 kb).1
   have e1 := keepc hq2 (show b1 < wr.heap.size by omega) d1
   have e2 := keepc hq2 (show b2 < wr.heap.size by omega) d2
   have HZ1' := hid (HZ1.out.below (hq2.mono hBr))
   have HZ2' := hid (HZ2.out.below (hq2.mono hBr))
   have hB2 : B ≤ w2.heap.size := Nat.le_trans hBr hq2.size
   obtain ⟨g, hg⟩ : ∃ g, wr.heap.size = g := ⟨_, rfl⟩
   rw [hg] at kb hl2 ⊢
   have y0 := cell_of_block (i := 0) kb (v := .int .i64 p) rfl
   have y1 := cell_of_block (i := 1) kb (v := .int .i64 q) rfl
   have hb1' : b1 < w2.heap.size := by have := hq2.size; omega
   have hb2' : b2 < w2.heap.size := by have := hq2.size; omega
   clear kb hq2 d1 d2 c0 c1 HZ1 HZ2 hg
   have HC := hid (c_Equal (B := B) w2.drew hB2 (HZ1'.out.below (Below.refl B w2).drew) (HZ2'.out.below (Below.refl B w2).drew))
   by_cases heq : af.getD p [] = vs.getD q []
   ·have HEQ := hid heq
    clear heq
    refine wp_region_held_drew (S := (fun w' => w'.cell? ⟨g, 0, none⟩ = some (.int .i64 p) ∧ w'.cell? ⟨g, 1, none⟩ = some (.int .i64 q) ∧ w'.cell? ⟨b1, o1 + p, none⟩ = some (.slice a1 l1 k1) ∧ w'.cell? ⟨b2, o2 + q, none⟩ = some (.slice a2 l2 k2))) (by kernel_rfl) ?_ (fun hHeld => ?_)
    ·first | exact ⟨y0, y1, e1, e2⟩ | exact ⟨keepc HQ.out hl2 y0, keepc HQ.out hl2 y1, keepc HQ.out hb1' e1, keepc HQ.out hb2' e2⟩
    refine tL 0 (some 15) ?_
    refine tL 1 (some 16) ?_
    refine tL 2 (some 17) ?_
    refine tL 3 (some 18) ?_
    refine tL 4 (some 19) ?_
    refine tL 5 (some 20) ?_
    refine tL 6 (some 21) ?_
    refine tL 7 (some 22) ?_
    refine tL 8 (some 23) ?_
    refine tL 9 (some 24) ?_
    refine tL 10 (some 25) ?_
    refine tL 11 (some 26) ?_
    refine wpAnyH_ready (rs := [12]) (by kernel_rfl) (by simp) ?_
    refine .cons (o := _) rfl (fun K hK => ?_) .nil
    go_simp
    refine HC.out.mono ?_
    rintro e w3 ⟨hb, hq⟩
    have HQ := hid (show Below w2.heap.size w2 w3 from ⟨hq.os, hq.tape, hq.output, hq.size, hq.block⟩)
    obtain rfl := boolIs_t HEQ.out hb
    clear hb hq
    (try go_wp2_with fail)
    (try clear hHeld)
    refine hK.out _ _ ?_ (fun hHeld => ?_)
    ·first | exact ⟨y0, y1, e1, e2⟩ | exact ⟨keepc HQ.out hl2 y0, keepc HQ.out hl2 y1, keepc HQ.out hb1' e1, keepc HQ.out hb2' e2⟩
    clear hK K
    (try simp only [Act.put, zq1, zq2, zq3])
    refine tL 13 (some 28) ?_
    refine wpAnyH_done (by kernel_rfl) ?_ _
    clear hHeld
    have HE := hid (HB2.out.trans (HQ.out.mono HB2.out.size))
    clear y0 y1 e1 e2
    go_wp2_with fail
    go_roundw
    case rel => exact ⟨k + 1, by omega, by go_num, fun t ht => by
     rcases Nat.lt_or_ge t k with h | h
     ·exact HNO.out t h
     ·obtain rfl : t = k := by omega
      rw [HST.out, HND.out]; exact HEQ.out, HE.out⟩
    case measure => simp [intOf] <;> omega
   ·have HEQ := hid heq
    clear heq
    refine wp_region_held_drew (S := (fun w' => w'.cell? ⟨g, 0, none⟩ = some (.int .i64 p) ∧ w'.cell? ⟨g, 1, none⟩ = some (.int .i64 q) ∧ w'.cell? ⟨b1, o1 + p, none⟩ = some (.slice a1 l1 k1) ∧ w'.cell? ⟨b2, o2 + q, none⟩ = some (.slice a2 l2 k2))) (by kernel_rfl) ?_ (fun hHeld => ?_)
    ·first | exact ⟨y0, y1, e1, e2⟩ | exact ⟨keepc HQ.out hl2 y0, keepc HQ.out hl2 y1, keepc HQ.out hb1' e1, keepc HQ.out hb2' e2⟩
    refine tL 0 (some 15) ?_
    refine tL 1 (some 16) ?_
    refine tL 2 (some 17) ?_
    refine tL 3 (some 18) ?_
    refine tL 4 (some 19) ?_
    refine tL 5 (some 20) ?_
    refine tL 6 (some 21) ?_
    refine tL 7 (some 22) ?_
    refine tL 8 (some 23) ?_
    refine tL 9 (some 24) ?_
    refine tL 10 (some 25) ?_
    refine tL 11 (some 26) ?_
    refine wpAnyH_ready (rs := [12]) (by kernel_rfl) (by simp) ?_
    refine .cons (o := _) rfl (fun K hK => ?_) .nil
    go_simp
    refine HC.out.mono ?_
    rintro e w3 ⟨hb, hq⟩
    have HQ := hid (show Below w2.heap.size w2 w3 from ⟨hq.os, hq.tape, hq.output, hq.size, hq.block⟩)
    obtain rfl := boolIs_f HEQ.out hb
    clear hb hq
    (try go_wp2_with fail)
    (try clear hHeld)
    refine hK.out _ _ ?_ (fun hHeld => ?_)
    ·first | exact ⟨y0, y1, e1, e2⟩ | exact ⟨keepc HQ.out hl2 y0, keepc HQ.out hl2 y1, keepc HQ.out hb1' e1, keepc HQ.out hb2' e2⟩
    clear hK K
    (try simp only [Act.put, zq1, zq2, zq3])
    refine tL 13 (some 28) ?_
    refine wpAnyH_done (by kernel_rfl) ?_ _
    clear hHeld
    have HE := hid (HB2.out.trans (HQ.out.mono HB2.out.size))
    clear y0 y1 e1 e2
    go_wp2_with fail
    go_ret
    exact ⟨BoolIs.no (fun h => by have h1 := h k (by have := HBL.out; omega); rw [HST.out, HND.out] at h1; exact HEQ.out h1), HE.out⟩
  ·have hki : ¬ (k : Int) < bl := by omega
   go_wp2_with fail
   go_ret
   exact ⟨BoolIs.yes (fun t ht => HNO.out t (by have := HBL.out; omega)), HB.out⟩
set_option maxHeartbeats 16000000 in
theorem c_StepFitsI {B : Nat} {s0 s1 s2 s3 s4 : SL} {M : MD} {sa ia : Option Addr} {sl sc il ic : Nat} {ta : Option Addr} {tl tc : Nat} {ss is ts : List (List Int)} (w : World) (hBw : B ≤ w.heap.size) (h : ModelAt B w s0 s1 s2 s3 s4 M) (hs : ValsAt B w sa sl sc ss) (hi : ValsAt B w ia il ic is) (ht : ValsAt B w ta tl tc ts) :
  Calls Tryz.prog 23 #[.agg (mcells s0 s1 s2 s3 s4).toArray, .slice sa sl sc, .slice ia il ic, .slice ta tl tc] w fun e w' => BoolIs (StepP M ss is ts) e ∧ Below w.heap.size w w' := by
 have HMA := hid h
 have HS := hid hs
 have HI := hid hi
 have HT := hid ht
 clear h hs hi ht
 simp only [mcells]
 go_enter Tryz.func23, Tryz.ntmps23
 go_upto_region 1 with fail
 refine code_gen (R := fun wb => Boxed s0 s1 s2 s3 s4 w wb) (Boxed.new _ _ _ _ _ _ _) ?_
 intro w0 hbox
 have HX0 := hid hbox
 obtain ⟨hlt, x0, x1, x2, x3, x4, hBx⟩ := hbox
 have hBk := Nat.le_trans hBw hBx.size
 have HM0 := hid (HMA.out.below (hBx.mono hBw))
 have HS0 := hid (HS.out.below (hBx.mono hBw))
 have HI0 := hid (HI.out.below (hBx.mono hBw))
 have HT0 := hid (HT.out.below (hBx.mono hBw))
 have HBX := hid hBx
 clear hBx
 go_wp2_with fail
 refine (c_momentFits (B := B) (s0 := s0) (s1 := s1) (s2 := s2) (s3 := s3) (s4 := s4) w0 hBk HM0.out HS0.out HI0.out).mono ?_
 rintro e w1 ⟨hb, hq⟩
 have HQ1 := hid hq
 have hB1 : B ≤ w1.heap.size := Nat.le_trans hBk hq.size
 have hlt1 : w.heap.size < w1.heap.size := Nat.lt_of_lt_of_le hlt hq.size
 by_cases hm : MomP M ss is
 rotate_left
 ·obtain rfl := boolIs_f hm hb
  have HMO := hid hm
  clear hm hb hq
  go_wp2_with fail
  go_ret
  exact ⟨BoolIs.no (fun h => HMO.out h.1), HBX.out.trans (HQ1.out.mono HBX.out.size)⟩
 obtain rfl := boolIs_t hm hb
 have HMO := hid hm
 obtain ⟨hf, hi⟩ := hm
 have HC := hid hf.1
 have HF36 := hid hf.2
 have HF35 := hid hi.2
 have HG := hid (code0_parts hf.1).1
 have HXB := hid (code0_all hf.1).2.2
 have HTW := hid (show ¬ againN M.xs from fun h => (code0_all hf.1).1 (.inr (.inr h)))
 have hn0 : M.ns.length = s0.len := HMA.out.ns.1
 have h60 : s0.len ≤ 60 := by have h1 := code0_len hf.1; omega
 have HN0 := hid hn0
 clear hn0
 have HM1 := hid (HM0.out.below (hq.mono hBk))
 have HS1 := hid (HS0.out.below (hq.mono hBk))
 have HI1 := hid (HI0.out.below (hq.mono hBk))
 have HT1 := hid (HT0.out.below (hq.mono hBk))
 have y0 := keepc hq hlt x0
 have y1 := keepc hq hlt x1
 have y2 := keepc hq hlt x2
 have y3 := keepc hq hlt x3
 have y4 := keepc hq hlt x4
 clear hf hi hb hq x0 x1 x2 x3 x4
 go_wp2_with fail
 refine (c_valuesFit (B := B) 36 w1 hB1 HM1.out.ns h60 HT1.out).mono ?_
 rintro e w2 ⟨hb, hq⟩
 have HQ2 := hid hq
 have hB2 : B ≤ w2.heap.size := Nat.le_trans hB1 hq.size
 have hlt2 : w.heap.size < w2.heap.size := Nat.lt_of_lt_of_le hlt1 hq.size
 by_cases hft : FitsN 36 M.ns ts
 rotate_left
 ·obtain rfl := boolIs_f hft hb
  have HFT := hid hft
  clear hft hb hq
  go_wp2_with fail
  go_ret
  exact ⟨BoolIs.no (fun h => HFT.out h.2.1.2), (HBX.out.trans (HQ1.out.mono HBX.out.size)).trans (HQ2.out.mono (Nat.le_of_lt hlt1))⟩
 obtain rfl := boolIs_t hft hb
 have HFT := hid hft
 have HM2 := hid (HM1.out.below (hq.mono hB1))
 have HS2 := hid (HS1.out.below (hq.mono hB1))
 have HI2 := hid (HI1.out.below (hq.mono hB1))
 have HT2 := hid (HT1.out.below (hq.mono hB1))
 have HE2 := hid ((HBX.out.trans (HQ1.out.mono HBX.out.size)).trans (hq.mono (Nat.le_of_lt hlt1)))
 have u0 := keepc hq hlt1 y0
 have u1 := keepc hq hlt1 y1
 have u2 := keepc hq hlt1 y2
 have u3 := keepc hq hlt1 y3
 have u4 := keepc hq hlt1 y4
 have HT4 := hid (show ∀ i, i < tl → (ts.getD i []).length ≤ 4 from fun i hi' => by
  have h1 := (hft.2 i (by rw [HT.out.length]; exact hi')).1
  have := cellsN_bound (M.ns.getD ((plcs 36 M.ns M.ns.length).getD i 0).toNat default).si (M.ns.getD ((plcs 36 M.ns M.ns.length).getD i 0).toNat default).sw
  omega)
 have HTL := hid (show tl = (plcs 36 M.ns M.ns.length).length by rw [← HT.out.length]; exact hft.1)
 clear hft hb hq y0 y1 y2 y3 y4
 obtain ⟨i0, hi0, hz0, hz1, hz2⟩ := info_parts valueInfo
 obtain ⟨w3, hrun, hown, hgrow⟩ := run_make_full (P := Tryz.prog) w2 w2.heap.size 30 69 i0 _ 1 Tryz.underlying30 hi0 hz0 hz1 .i64 .i64 s0.len (by rw [hz2]; omega) (by unfold maxLen; omega) (Nat.le_refl _)
 have HB3 := hid ((Below.refl w2.heap.size w2).grown hgrow (Nat.le_refl _) (by simp))
 have HV3 := hid (ValRow.nils hown)
 have hs3 : w2.heap.size ≤ w3.heap.size := hgrow.size
 clear hi0 hz0 hz1 hz2 hown hgrow
 go_upto_region 4 with fail
 clear hrun
 replace u0 := keepc HB3.out hlt2 u0
 replace u1 := keepc HB3.out hlt2 u1
 replace u2 := keepc HB3.out hlt2 u2
 replace u3 := keepc HB3.out hlt2 u3
 replace u4 := keepc HB3.out hlt2 u4
 go_wp2_with fail
 refine (c_layDown (B := B) (base := w2.heap.size) 36 w3 hB2 hs3 ((HM2.out.below (HB3.out.mono hB2)).ns) h60 (HT2.out.below (HB3.out.mono hB2)) HTL.out HT4.out HV3.out (by simp) rfl).mono ?_
 rintro e w4 ⟨u', xs1, rfl, hv1, hx1, hb1⟩
 have HB4 := hid (HB3.out.trans hb1)
 have hs4 : w2.heap.size ≤ w4.heap.size := by have := hb1.size; omega
 have hxl1 : xs1.length = s0.len := by have := congrArg List.length hx1; rw [lay_len] at this; simpa using this
 have HAF := hid (show ValsAt w4.heap.size w4 (some ⟨w2.heap.size, 0, none⟩) s0.len s0.len (lay (plcs 36 M.ns M.ns.length) ts (List.replicate M.ns.length []) (plcs 36 M.ns M.ns.length).length) from by
  have h1 := hv1.vals hxl1.symm
  rw [hx1, show (List.replicate s0.len ((.slice none 0 0, []) : Value × List Int)).map Prod.snd = List.replicate M.ns.length [] by rw [List.map_replicate, HN0.out]] at h1
  exact h1)
 have HM4 := hid (HM2.out.below (HB4.out.mono hB2))
 have HS4 := hid (HS2.out.below (HB4.out.mono hB2))
 have HI4 := hid (HI2.out.below (HB4.out.mono hB2))
 have hB4 : B ≤ w4.heap.size := Nat.le_trans hB2 hs4
 have hlt4 : w.heap.size < w4.heap.size := Nat.lt_of_lt_of_le hlt2 hs4
 have HHB := hid (show Below w2.heap.size w3 w4 from hb1)
 have HHS := hid hs3
 replace u0 : w4.cell? ⟨w.heap.size, 0, none⟩ = some (.slice s0.a s0.len s0.cap) := (hb1.cell (p := ⟨w.heap.size, 0, none⟩) hlt2).trans u0
 replace u1 : w4.cell? ⟨w.heap.size, 1, none⟩ = some (.slice s1.a s1.len s1.cap) := (hb1.cell (p := ⟨w.heap.size, 1, none⟩) hlt2).trans u1
 replace u2 : w4.cell? ⟨w.heap.size, 2, none⟩ = some (.slice s2.a s2.len s2.cap) := (hb1.cell (p := ⟨w.heap.size, 2, none⟩) hlt2).trans u2
 replace u3 : w4.cell? ⟨w.heap.size, 3, none⟩ = some (.slice s3.a s3.len s3.cap) := (hb1.cell (p := ⟨w.heap.size, 3, none⟩) hlt2).trans u3
 replace u4 : w4.cell? ⟨w.heap.size, 4, none⟩ = some (.slice s4.a s4.len s4.cap) := (hb1.cell (p := ⟨w.heap.size, 4, none⟩) hlt2).trans u4
 obtain ⟨ga, hga⟩ : ∃ g, w2.heap.size = g := ⟨_, rfl⟩
 rw [hga] at HAF ⊢
 clear hv1 hx1 hb1 hxl1 HV3 hga
 go_upto_region 5 with fail
 refine wp_region_held_drew (S := (fun w' => w'.cell? ⟨w.heap.size, 0, none⟩ = some (.slice s0.a s0.len s0.cap) ∧ w'.cell? ⟨w.heap.size, 1, none⟩ = some (.slice s1.a s1.len s1.cap) ∧ w'.cell? ⟨w.heap.size, 2, none⟩ = some (.slice s2.a s2.len s2.cap) ∧ w'.cell? ⟨w.heap.size, 3, none⟩ = some (.slice s3.a s3.len s3.cap) ∧ w'.cell? ⟨w.heap.size, 4, none⟩ = some (.slice s4.a s4.len s4.cap))) (by kernel_rfl) ?_ (fun hHeld => ?_)
 ·first | exact ⟨u0, u1, u2, u3, u4⟩ | exact ⟨keepc HQ6.out hlt4 u0, keepc HQ6.out hlt4 u1, keepc HQ6.out hlt4 u2, keepc HQ6.out hlt4 u3, keepc HQ6.out hlt4 u4⟩ | exact ⟨keepc HQ5.out hlt4 u0, keepc HQ5.out hlt4 u1, keepc HQ5.out hlt4 u2, keepc HQ5.out hlt4 u3, keepc HQ5.out hlt4 u4⟩
 refine tL 0 (some 31) ?_
 refine tL 1 (some 32) ?_
 refine tL 2 (some 33) ?_
 refine tL 3 (some 34) ?_
 refine tL 4 (some 35) ?_
 refine tL 5 (some 36) ?_
 refine tL 7 (some 38) ?_
 refine wpAnyH_ready (rs := [6]) (by kernel_rfl) (by simp) ?_
 refine .cons (o := _) rfl (fun K hK => ?_) .nil
 go_simp
 refine (c_reckonAll (B := B) w4.drew hB4 (HM4.out.below (Below.refl B w4).drew).ns (HS4.out.below (Below.refl B w4).drew) (HI4.out.below (Below.refl B w4).drew) h60 HG.out HF36.out HF35.out).mono ?_
 rintro e w5 ⟨v, xs, rfl, hv, hx, hq'⟩
 obtain ⟨va, vc, rfl⟩ := hv.len
 have hq : Below w4.heap.size w4 w5 := ⟨hq'.os, hq'.tape, hq'.output, hq'.size, hq'.block⟩
 have hxl : xs.length = s0.len := by have := congrArg List.length hx; rw [evs_len] at this; have := HN0.out; simp at *; omega
 have HVL := hid (show ValsAt w5.heap.size w5 va xs.length vc (evs M.ns ss is M.ns.length) from hx ▸ hv.vals rfl)
 rw [hxl] at HVL ⊢
 have HQ5 := hid hq
 clear hv hx hq hq' hxl
 (try go_wp2_with fail)
 (try clear hHeld)
 refine hK.out _ _ ?_ (fun hHeld => ?_)
 ·first | exact ⟨u0, u1, u2, u3, u4⟩ | exact ⟨keepc HQ6.out hlt4 u0, keepc HQ6.out hlt4 u1, keepc HQ6.out hlt4 u2, keepc HQ6.out hlt4 u3, keepc HQ6.out hlt4 u4⟩ | exact ⟨keepc HQ5.out hlt4 u0, keepc HQ5.out hlt4 u1, keepc HQ5.out hlt4 u2, keepc HQ5.out hlt4 u3, keepc HQ5.out hlt4 u4⟩
 clear hK K
 (try simp only [Act.put, zq1, zq2, zq3])
 refine wpAnyH_ready (rs := [8]) (by kernel_rfl) (by simp) ?_
 refine .cons (o := _) rfl (fun K hK => ?_) .nil
 go_simp
 refine (c_nextsFit (B := w5.heap.size) w5 (Nat.le_refl _) ((HM4.out.xs.below (HQ5.out.mono hB4)).mono (Nat.le_trans hB4 HQ5.out.size)) HVL.out ((HAF.out.below HQ5.out).mono HQ5.out.size) (fun t ht => by obtain ⟨⟨a0, a1⟩, ⟨b0, b1⟩, -⟩ := HXB.out t ht; have := HN0.out; exact ⟨⟨a0, by show (M.xs.getD t default).st.toNat < _; omega⟩, b0, by omega⟩)).mono ?_
 rintro e w6 ⟨⟨r, rfl, hr⟩, hq⟩
 have HR := hid hr
 have HQ6 := hid (HQ5.out.trans (hq.mono HQ5.out.size))
 clear hr hq
 (try go_wp2_with fail)
 (try clear hHeld)
 refine hK.out _ _ ?_ (fun hHeld => ?_)
 ·first | exact ⟨u0, u1, u2, u3, u4⟩ | exact ⟨keepc HQ6.out hlt4 u0, keepc HQ6.out hlt4 u1, keepc HQ6.out hlt4 u2, keepc HQ6.out hlt4 u3, keepc HQ6.out hlt4 u4⟩ | exact ⟨keepc HQ5.out hlt4 u0, keepc HQ5.out hlt4 u1, keepc HQ5.out hlt4 u2, keepc HQ5.out hlt4 u3, keepc HQ5.out hlt4 u4⟩
 clear hK K
 (try simp only [Act.put, zq1, zq2, zq3])
 refine tL 9 (some 8) ?_
 refine wpAnyH_done (by kernel_rfl) ?_ _
 clear hHeld
 go_wp2_with fail
 go_ret
 exact ⟨⟨r, rfl, HR.out.trans ((nexts_iff HXB.out HTW.out _ _).trans ⟨fun h => ⟨HMO.out, ⟨HC.out, HFT.out⟩, h⟩, fun h => h.2.2⟩)⟩, (HE2.out.trans (HB4.out.mono (Nat.le_of_lt hlt2))).trans (HQ6.out.mono (Nat.le_of_lt hlt4))⟩
set_option maxHeartbeats 16000000 in
theorem c_StepFitsS {B : Nat} {s0 s1 s2 s3 s4 : SL} {M : MD} {sa ia : Option Addr} {sl sc il ic : Nat} {ta : Option Addr} {tl tc : Nat} {ss is ts : List (List Int)} (w : World) (hBw : B ≤ w.heap.size) (h : ModelAt B w s0 s1 s2 s3 s4 M) (hs : ValsAt B w sa sl sc ss) (hi : ValsAt B w ia il ic is) (ht : ValsAt B w ta tl tc ts) :
  Calls Tryz.prog 22 #[.agg (mcells s0 s1 s2 s3 s4).toArray, .slice sa sl sc, .slice ia il ic, .slice ta tl tc] w fun e w' => BoolIs (StepP M ss is ts) e ∧ Below w.heap.size w w' := by
 have HMA := hid h
 have HS := hid hs
 have HI := hid hi
 have HT := hid ht
 clear h hs hi ht
 simp only [mcells]
 go_enter Tryz.func22, Tryz.ntmps22
 go_upto_region 1 with fail
 refine code_gen (R := fun wb => Boxed s0 s1 s2 s3 s4 w wb) (Boxed.new _ _ _ _ _ _ _) ?_
 intro w0 hbox
 have HX0 := hid hbox
 obtain ⟨hlt, x0, x1, x2, x3, x4, hBx⟩ := hbox
 have hBk := Nat.le_trans hBw hBx.size
 have HM0 := hid (HMA.out.below (hBx.mono hBw))
 have HS0 := hid (HS.out.below (hBx.mono hBw))
 have HI0 := hid (HI.out.below (hBx.mono hBw))
 have HT0 := hid (HT.out.below (hBx.mono hBw))
 have HBX := hid hBx
 clear hBx
 by_cases hf : FitM 36 M ss
 rotate_left
 ·have HF := hid hf
  clear hf
  go_wp2_with fail
  refine (c_StateFitsS (B := B) (s0 := s0) (s1 := s1) (s2 := s2) (s3 := s3) (s4 := s4) w0 hBk HM0.out HS0.out).mono ?_
  rintro e w1 ⟨hb, hq⟩
  have HQ1 := hid hq
  obtain rfl := boolIs_f HF.out hb
  have hlt1 := Nat.lt_of_lt_of_le hlt hq.size
  have y0 := keepc hq hlt x0
  have y1 := keepc hq hlt x1
  have y2 := keepc hq hlt x2
  have y3 := keepc hq hlt x3
  have y4 := keepc hq hlt x4
  clear hb hq x0 x1 x2 x3 x4
  go_wp2_with fail
  go_ret
  exact ⟨BoolIs.no (fun h => (fun h => HF.out h.1) h.1), HBX.out.trans (HQ1.out.mono HBX.out.size)⟩
 have HF := hid hf
 by_cases hi : FitM 35 M is
 rotate_left
 ·have HFI := hid hi
  clear hi hf
  go_wp2_with fail
  refine (c_StateFitsS (B := B) (s0 := s0) (s1 := s1) (s2 := s2) (s3 := s3) (s4 := s4) w0 hBk HM0.out HS0.out).mono ?_
  rintro e w1 ⟨hb, hq⟩
  have HQ1 := hid hq
  obtain rfl := boolIs_t HF.out hb
  have hlt1 := Nat.lt_of_lt_of_le hlt hq.size
  have y0 := keepc hq hlt x0
  have y1 := keepc hq hlt x1
  have y2 := keepc hq hlt x2
  have y3 := keepc hq hlt x3
  have y4 := keepc hq hlt x4
  clear hb hq x0 x1 x2 x3 x4
  go_wp2_with fail
  refine (c_InputFitsS (B := B) (s0 := s0) (s1 := s1) (s2 := s2) (s3 := s3) (s4 := s4) w1 (Nat.le_trans hBk HQ1.out.size) (HM0.out.below (HQ1.out.mono hBk)) (HI0.out.below (HQ1.out.mono hBk))).mono ?_
  rintro e w2 ⟨hb, hq⟩
  have HQ2 := hid (HQ1.out.trans (hq.mono HQ1.out.size))
  obtain rfl := boolIs_f HFI.out hb
  have hlt2 := Nat.lt_of_lt_of_le hlt1 hq.size
  have u0 := keepc hq hlt1 y0
  have u1 := keepc hq hlt1 y1
  have u2 := keepc hq hlt1 y2
  have u3 := keepc hq hlt1 y3
  have u4 := keepc hq hlt1 y4
  clear hb hq y0 y1 y2 y3 y4
  go_wp2_with fail
  go_ret
  exact ⟨BoolIs.no (fun h => (fun h => HFI.out h.2) h.1), HBX.out.trans (HQ2.out.mono HBX.out.size)⟩
 have HFI := hid hi
 have HC := hid hf.1
 have HF36 := hid hf.2
 have HF35 := hid hi.2
 have HG := hid (code0_parts hf.1).1
 have HXB := hid (code0_all hf.1).2.2
 have HTW := hid (show ¬ againN M.xs from fun h => (code0_all hf.1).1 (.inr (.inr h)))
 have hn0 : M.ns.length = s0.len := HMA.out.ns.1
 have h60 : s0.len ≤ 60 := by have h1 := code0_len hf.1; omega
 have HN0 := hid hn0
 clear hn0
 clear hf hi
 go_wp2_with fail
 refine (c_StateFitsS (B := B) (s0 := s0) (s1 := s1) (s2 := s2) (s3 := s3) (s4 := s4) w0 hBk HM0.out HS0.out).mono ?_
 rintro e w1 ⟨hb, hq⟩
 have HQ1 := hid hq
 obtain rfl := boolIs_t HF.out hb
 have hlt1 := Nat.lt_of_lt_of_le hlt hq.size
 have y0 := keepc hq hlt x0
 have y1 := keepc hq hlt x1
 have y2 := keepc hq hlt x2
 have y3 := keepc hq hlt x3
 have y4 := keepc hq hlt x4
 clear hb hq x0 x1 x2 x3 x4
 go_wp2_with fail
 refine (c_InputFitsS (B := B) (s0 := s0) (s1 := s1) (s2 := s2) (s3 := s3) (s4 := s4) w1 (Nat.le_trans hBk HQ1.out.size) (HM0.out.below (HQ1.out.mono hBk)) (HI0.out.below (HQ1.out.mono hBk))).mono ?_
 rintro e w2 ⟨hb, hq⟩
 have HQ2 := hid (HQ1.out.trans (hq.mono HQ1.out.size))
 obtain rfl := boolIs_t HFI.out hb
 have hlt2 := Nat.lt_of_lt_of_le hlt1 hq.size
 have u0 := keepc hq hlt1 y0
 have u1 := keepc hq hlt1 y1
 have u2 := keepc hq hlt1 y2
 have u3 := keepc hq hlt1 y3
 have u4 := keepc hq hlt1 y4
 clear hb hq y0 y1 y2 y3 y4
 by_cases hft : FitM 36 M ts
 rotate_left
 ·have HFT := hid hft
  clear hft
  go_wp2_with fail
  refine (c_StateFitsS (B := B) (s0 := s0) (s1 := s1) (s2 := s2) (s3 := s3) (s4 := s4) w2 (Nat.le_trans hBk HQ2.out.size) (HM0.out.below (HQ2.out.mono hBk)) (HT0.out.below (HQ2.out.mono hBk))).mono ?_
  rintro e w3 ⟨hb, hq⟩
  have HQ3 := hid (HQ2.out.trans (hq.mono HQ2.out.size))
  obtain rfl := boolIs_f HFT.out hb
  have hlt3 := Nat.lt_of_lt_of_le hlt2 hq.size
  have v0 := keepc hq hlt2 u0
  have v1 := keepc hq hlt2 u1
  have v2 := keepc hq hlt2 u2
  have v3 := keepc hq hlt2 u3
  have v4 := keepc hq hlt2 u4
  clear hb hq u0 u1 u2 u3 u4
  go_wp2_with fail
  go_ret
  exact ⟨BoolIs.no (fun h => HFT.out h.2.1), HBX.out.trans (HQ3.out.mono HBX.out.size)⟩
 have HFT := hid hft
 clear hft
 go_wp2_with fail
 refine (c_StateFitsS (B := B) (s0 := s0) (s1 := s1) (s2 := s2) (s3 := s3) (s4 := s4) w2 (Nat.le_trans hBk HQ2.out.size) (HM0.out.below (HQ2.out.mono hBk)) (HT0.out.below (HQ2.out.mono hBk))).mono ?_
 rintro e w3 ⟨hb, hq⟩
 have HQ3 := hid (HQ2.out.trans (hq.mono HQ2.out.size))
 obtain rfl := boolIs_t HFT.out hb
 have hlt3 := Nat.lt_of_lt_of_le hlt2 hq.size
 have v0 := keepc hq hlt2 u0
 have v1 := keepc hq hlt2 u1
 have v2 := keepc hq hlt2 u2
 have v3 := keepc hq hlt2 u3
 have v4 := keepc hq hlt2 u4
 clear hb hq u0 u1 u2 u3 u4
 have hB3 : B ≤ w3.heap.size := Nat.le_trans hBk HQ3.out.size
 have HM3 := hid (HM0.out.below (HQ3.out.mono hBk))
 have HS3 := hid (HS0.out.below (HQ3.out.mono hBk))
 have HI3 := hid (HI0.out.below (HQ3.out.mono hBk))
 have HT3 := hid (HT0.out.below (HQ3.out.mono hBk))
 go_wp2_with fail
 refine (c_l4All (B := B) (s0 := s0) (s1 := s1) (s2 := s2) (s3 := s3) (s4 := s4) w3 hB3 HM3.out HS3.out HI3.out h60 HG.out HF36.out HF35.out).mono ?_
 rintro e w4 ⟨v, xs, rfl, hv, hx, hq⟩
 obtain ⟨va, vc, rfl⟩ := hv.len
 have hxl : xs.length = s0.len := by have := congrArg List.length hx; rw [evs_len] at this; have := HN0.out; simp at *; omega
 have HVL := hid (show ValsAt w4.heap.size w4 va xs.length vc (evs M.ns ss is M.ns.length) from hx ▸ hv.vals rfl)
 rw [hxl] at HVL ⊢
 have HQ4 := hid hq
 have hB4 : B ≤ w4.heap.size := Nat.le_trans hB3 hq.size
 have hlt4 := Nat.lt_of_lt_of_le hlt3 hq.size
 have HM4 := hid (HM3.out.below (hq.mono hB3))
 have HT4 := hid (HT3.out.below (hq.mono hB3))
 replace v0 := keepc hq hlt3 v0
 replace v1 := keepc hq hlt3 v1
 replace v2 := keepc hq hlt3 v2
 replace v3 := keepc hq hlt3 v3
 replace v4 := keepc hq hlt3 v4
 clear hv hx hq hxl
 go_wp2_with fail
 refine (c_l2Places (B := B) (s0 := s0) (s1 := s1) (s2 := s2) (s3 := s3) (s4 := s4) 36 w4 hB4 HM4.out h60).mono ?_
 rintro e w5 ⟨vp, rfl, how, hq⟩
 obtain ⟨pa, pc, rfl, -⟩ := own_form how
 have HPI := hid (own_ints how rfl)
 have HQ5 := hid (HQ4.out.trans (hq.mono HQ4.out.size))
 have hB5 : B ≤ w5.heap.size := Nat.le_trans hB4 hq.size
 have hlt5 := Nat.lt_of_lt_of_le hlt4 hq.size
 have HM5 := hid (HM4.out.below (hq.mono hB4))
 have HT5 := hid (HT4.out.below (hq.mono hB4))
 have HVL5 := hid ((HVL.out.below hq).mono hq.size)
 replace v0 := keepc hq hlt4 v0
 replace v1 := keepc hq hlt4 v1
 replace v2 := keepc hq hlt4 v2
 replace v3 := keepc hq hlt4 v3
 replace v4 := keepc hq hlt4 v4
 have hpl60 : (plcs 36 M.ns M.ns.length).length ≤ 60 := by have := plcs_len 36 M.ns M.ns.length; have := HN0.out; omega
 have htl : tl = (plcs 36 M.ns M.ns.length).length := by rw [← HT.out.length]; exact HFT.out.2.1
 have HSI := hid (show ∀ i, i < (plcs 36 M.ns M.ns.length).length → 0 ≤ bndN M.xs ((plcs 36 M.ns M.ns.length).getD i 0) → (bndN M.xs ((plcs 36 M.ns M.ns.length).getD i 0)).toNat < M.ns.length ∧ (ts.getD i []).length = ((evs M.ns ss is M.ns.length).getD (bndN M.xs ((plcs 36 M.ns M.ns.length).getD i 0)).toNat []).length from fun i h1 h2 => step_in HXB.out HG.out HF36.out HF35.out HFT.out.2 h1 h2)
 clear how hq HVL
 obtain ⟨P, hP⟩ : ∃ P, (plcs 36 M.ns M.ns.length) = P := ⟨_, rfl⟩
 have HPP := hid hP
 rw [hP] at HPI HSI hpl60 htl ⊢
 clear hP
 go_wp2_with fail
 go_loopw [11] (fun i wr => ∃ k : Nat, k ≤ P.length ∧ i = .int .i64 k ∧ (∀ t, t < k → 0 ≤ bndN M.xs (P.getD t 0) → ts.getD t [] = (evs M.ns ss is M.ns.length).getD (bndN M.xs (P.getD t 0)).toNat []) ∧ Below w5.heap.size w5 wr) (fun i _ => P.length - (intOf i).toNat)
 case atStart => exact ⟨0, by omega, rfl, fun t h => by omega, Below.refl _ _⟩
 case round =>
  obtain ⟨k, hk, rfl, hno, hB⟩ := hrel
  have HNO := hid hno
  have HB := hid hB
  clear hno hB
  replace v0 := keepc HB.out hlt5 v0
  replace v1 := keepc HB.out hlt5 v1
  replace v2 := keepc HB.out hlt5 v2
  replace v3 := keepc HB.out hlt5 v3
  replace v4 := keepc HB.out hlt5 v4
  have hltr : w.heap.size < wr.heap.size := Nat.lt_of_lt_of_le hlt5 HB.out.size
  have hBr : B ≤ wr.heap.size := Nat.le_trans hB5 HB.out.size
  by_cases hkl : k < P.length
  ·have hki : (k : Int) < P.length := by omega
   obtain ⟨p, b3, o3, hp, -, rfl, hbB3, c0⟩ := int_at (HPI.out.below HB.out) hkl
   have hb3 : b3 < wr.heap.size := Nat.lt_of_lt_of_le hbB3 HB.out.size
   have hSI := HSI.out k hkl
   rw [hp] at hSI
   have HPK := hid hp
   clear hp
   have HXR := hid (HM5.out.xs.below (HB.out.mono hB5))
   obtain ⟨q, hq⟩ : ∃ q, bndN M.xs p = q := ⟨_, rfl⟩
   have HBQ := hid hq
   rw [hq] at hSI
   clear hq
   go_upto_region 8 with fail
   refine wp_region_held_drew (S := (fun w' => w'.cell? ⟨w.heap.size, 2, none⟩ = some (.slice s2.a s2.len s2.cap) ∧ w'.cell? ⟨b3, o3 + k, none⟩ = some (.int .i64 p))) (by kernel_rfl) ?_ (fun hHeld => ?_)
   ·first | exact ⟨v2, c0⟩ | exact ⟨keepc HQ6.out hltr v2, keepc HQ6.out hb3 c0⟩
   refine tL 0 (some 41) ?_
   refine tL 1 (some 42) ?_
   refine tL 2 (some 43) ?_
   refine tL 3 (some 44) ?_
   refine tL 4 (some 45) ?_
   refine tL 5 (some 46) ?_
   refine wpAnyH_ready (rs := [6]) (by kernel_rfl) (by simp) ?_
   refine .cons (o := _) rfl (fun K hK => ?_) .nil
   go_simp
   refine (c_l4Bound (B := B) p wr.drew hBr (HXR.out.below (Below.refl B wr).drew)).mono ?_
   rintro e w6 ⟨rfl, hw⟩
   rw [HBQ.out]
   have HQ6 := hid (show Below wr.heap.size wr w6 from by rw [hw]; exact (Below.refl _ _).drew)
   clear hw
   (try go_wp2_with fail)
   (try clear hHeld)
   refine hK.out _ _ ?_ (fun hHeld => ?_)
   ·first | exact ⟨v2, c0⟩ | exact ⟨keepc HQ6.out hltr v2, keepc HQ6.out hb3 c0⟩
   clear hK K
   (try simp only [Act.put, zq1, zq2, zq3])
   refine tL 7 (some 12) ?_
   refine wpAnyH_done (by kernel_rfl) ?_ _
   clear hHeld
   go_upto_region 9 with fail
   refine code_gen (R := fun wb => Below w5.heap.size w5 wb) (by first | exact HB.out.trans (HQ6.out.mono HB.out.size) | exact (HB.out.trans (HQ6.out.mono HB.out.size)).drew) ?_
   clear HQ6 c0 v0 v1 v2 v3 v4
   intro w7 hb7
   have HB7 := hid hb7
   clear hb7
   by_cases hq0 : 0 ≤ q
   rotate_left
   ·have HQN := hid hq0
    have hqd : decide (0 ≤ q) = false := by simpa using hq0
    clear hq0
    refine wp_region_held_drew (S := (fun w' => w'.heap.size = w'.heap.size)) (by kernel_rfl) ?_ (fun hHeld => ?_)
    ·exact rfl
    refine tL 0 (some 48) ?_
    refine tL 1 (some 49) ?_
    refine tL 2 (some 50) ?_
    refine tU 3 (some 51) ?_
    refine tU 4 (some 52) ?_
    refine tU 5 (some 53) ?_
    refine tU 6 (some 54) ?_
    refine tU 7 (some 55) ?_
    refine tU 8 (some 56) ?_
    refine tU 9 (some 57) ?_
    refine tU 10 (some 58) ?_
    refine tU 11 (some 59) ?_
    refine tU 12 (some 60) ?_
    refine tL 13 (some 61) ?_
    refine wpAnyH_done (by kernel_rfl) ?_ _
    clear hHeld
    go_wp2_with fail
    go_roundw
    case rel => exact ⟨k + 1, by omega, by go_num, fun t ht h0 => by
     rcases Nat.lt_or_ge t k with h | h
     ·exact HNO.out t h h0
     ·obtain rfl : t = k := by omega
      rw [HPK.out, HBQ.out] at h0; exact absurd h0 HQN.out, by first | exact HB7.out | exact HB7.out.drew⟩
    case measure => simp [intOf] <;> omega
   obtain ⟨q1, q2⟩ := hSI hq0
   have hqd : decide (0 ≤ q) = true := by simpa using hq0
   obtain ⟨q, rfl⟩ : ∃ n : Nat, q = n := ⟨q.toNat, by omega⟩
   rw [Int.toNat_natCast] at q1 q2
   have hql : q < s0.len := by have := HN0.out; omega
   have hqi : (q : Int) < s0.len := by omega
   have hkt : k < tl := by omega
   have hkti : (k : Int) < tl := by omega
   obtain ⟨a1, l1, k1, b1, o1, rfl, hb1, d1, hz1⟩ := val_at (HT5.out.below (HB7.out.mono hB5)) hkt
   obtain ⟨a2, l2, k2, b2, o2, rfl, hb2, d2, hz2⟩ := val_at (HVL5.out.below HB7.out) hql
   have hb1' : b1 < w7.heap.size := by have := HB7.out.size; omega
   have hb2' : b2 < w7.heap.size := by have := HB7.out.size; omega
   have HC := hid (c_l4Same (B := w7.heap.size) w7.drew (Nat.le_refl _) ((hz1.mono (Nat.le_trans hB5 HB7.out.size)).below (Below.refl _ w7).drew) ((hz2.mono HB7.out.size).below (Below.refl _ w7).drew) q2)
   clear hz1 hz2 q2 hq0
   by_cases heq : ts.getD k [] = (evs M.ns ss is M.ns.length).getD q []
   ·have HEQ := hid heq
    clear heq
    refine wp_region_held_drew (S := (fun w' => w'.cell? ⟨b1, o1 + k, none⟩ = some (.slice a1 l1 k1) ∧ w'.cell? ⟨b2, o2 + q, none⟩ = some (.slice a2 l2 k2))) (by kernel_rfl) ?_ (fun hHeld => ?_)
    ·first | exact ⟨d1, d2⟩ | exact ⟨keepc HQ8.out hb1' d1, keepc HQ8.out hb2' d2⟩
    refine tL 0 (some 48) ?_
    refine tL 1 (some 49) ?_
    refine tL 2 (some 50) ?_
    refine tL 3 (some 51) ?_
    refine tL 4 (some 52) ?_
    refine tL 5 (some 53) ?_
    refine tL 6 (some 54) ?_
    refine tL 7 (some 55) ?_
    refine tL 8 (some 56) ?_
    refine tL 9 (some 57) ?_
    refine tL 10 (some 58) ?_
    refine wpAnyH_ready (rs := [11]) (by kernel_rfl) (by simp) ?_
    refine .cons (o := _) rfl (fun K hK => ?_) .nil
    go_simp
    refine HC.out.mono ?_
    rintro e w8 ⟨hb, hq⟩
    have HQ8 := hid (show Below w7.heap.size w7 w8 from ⟨hq.os, hq.tape, hq.output, hq.size, hq.block⟩)
    obtain rfl := boolIs_t HEQ.out hb
    clear hb hq
    (try go_wp2_with fail)
    (try clear hHeld)
    refine hK.out _ _ ?_ (fun hHeld => ?_)
    ·first | exact ⟨d1, d2⟩ | exact ⟨keepc HQ8.out hb1' d1, keepc HQ8.out hb2' d2⟩
    clear hK K
    (try simp only [Act.put, zq1, zq2, zq3])
    refine tL 12 (some 60) ?_
    refine tL 13 (some 61) ?_
    refine wpAnyH_done (by kernel_rfl) ?_ _
    clear hHeld
    have HE := hid (HB7.out.trans (HQ8.out.mono HB7.out.size))
    clear d1 d2
    go_wp2_with fail
    go_roundw
    case rel => exact ⟨k + 1, by omega, by go_num, fun t ht h0 => by
     rcases Nat.lt_or_ge t k with h | h
     ·exact HNO.out t h h0
     ·obtain rfl : t = k := by omega
      rw [HPK.out, HBQ.out, Int.toNat_natCast]; exact HEQ.out, HE.out⟩
    case measure => simp [intOf] <;> omega
   ·have HEQ := hid heq
    clear heq
    refine wp_region_held_drew (S := (fun w' => w'.cell? ⟨b1, o1 + k, none⟩ = some (.slice a1 l1 k1) ∧ w'.cell? ⟨b2, o2 + q, none⟩ = some (.slice a2 l2 k2))) (by kernel_rfl) ?_ (fun hHeld => ?_)
    ·first | exact ⟨d1, d2⟩ | exact ⟨keepc HQ8.out hb1' d1, keepc HQ8.out hb2' d2⟩
    refine tL 0 (some 48) ?_
    refine tL 1 (some 49) ?_
    refine tL 2 (some 50) ?_
    refine tL 3 (some 51) ?_
    refine tL 4 (some 52) ?_
    refine tL 5 (some 53) ?_
    refine tL 6 (some 54) ?_
    refine tL 7 (some 55) ?_
    refine tL 8 (some 56) ?_
    refine tL 9 (some 57) ?_
    refine tL 10 (some 58) ?_
    refine wpAnyH_ready (rs := [11]) (by kernel_rfl) (by simp) ?_
    refine .cons (o := _) rfl (fun K hK => ?_) .nil
    go_simp
    refine HC.out.mono ?_
    rintro e w8 ⟨hb, hq⟩
    have HQ8 := hid (show Below w7.heap.size w7 w8 from ⟨hq.os, hq.tape, hq.output, hq.size, hq.block⟩)
    obtain rfl := boolIs_f HEQ.out hb
    clear hb hq
    (try go_wp2_with fail)
    (try clear hHeld)
    refine hK.out _ _ ?_ (fun hHeld => ?_)
    ·first | exact ⟨d1, d2⟩ | exact ⟨keepc HQ8.out hb1' d1, keepc HQ8.out hb2' d2⟩
    clear hK K
    (try simp only [Act.put, zq1, zq2, zq3])
    refine tL 12 (some 60) ?_
    refine tL 13 (some 61) ?_
    refine wpAnyH_done (by kernel_rfl) ?_ _
    clear hHeld
    have HE := hid (HB7.out.trans (HQ8.out.mono HB7.out.size))
    clear d1 d2
    go_wp2_with fail
    go_ret
    exact ⟨BoolIs.no (fun h => by
     have h1 := h.2.2
     rw [HPP.out] at h1
     have h2 := h1 k hkl (by rw [HPK.out, HBQ.out]; omega)
     rw [HPK.out, HBQ.out, Int.toNat_natCast] at h2
     exact HEQ.out h2), ((HBX.out.trans (HQ3.out.mono HBX.out.size)).trans (HQ5.out.mono (Nat.le_of_lt hlt3))).trans (HE.out.mono (Nat.le_of_lt hlt5))⟩
  ·have hki : ¬ (k : Int) < P.length := by omega
   go_wp2_with fail
   go_ret
   exact ⟨BoolIs.yes ⟨⟨HF.out, HFI.out⟩, HFT.out, by rw [HPP.out]; exact fun t ht h0 => HNO.out t (by omega) h0⟩, ((HBX.out.trans (HQ3.out.mono HBX.out.size)).trans (HQ5.out.mono (Nat.le_of_lt hlt3))).trans (HB.out.mono (Nat.le_of_lt hlt5))⟩
end Go.Proofs.YtlcgimadbpagfaaGreat
