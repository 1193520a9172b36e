/-
  Parts: EvR, EvE, shortened.
-/
import Derived.Test.YtlcgimadbpagfaaGreatZEvP
import Derived.Test.YtlcgimadbpagfaaGreatZEvA
namespace Go.Proofs.YtlcgimadbpagfaaGreat
open Go.Lib
open Go.ChangeShapes Go.WideShapes Go.ChangeAt Go.RowKit Go.Maps
set_option linter.unusedVariables false
set_option maxRecDepth 100000
theorem plcs_pos {kind : Int} {ns : List ND} : ∀ {n t : Nat}, t < (plcs kind ns n).length → (plcs kind ns ((plcs kind ns n).getD t 0).toNat).length = t := by
 intro n
 induction n with
 | zero => intro t h; simp [plcs] at h
 | succ n ih =>
  intro t h
  simp only [plcs] at h ⊢
  split at h
  ·rename_i hk
   rw [if_pos hk]
   by_cases e : t < (plcs kind ns n).length
   ·have e2 : (plcs kind ns n ++ [(n : Int)]).getD t 0 = (plcs kind ns n).getD t 0 := by simp only [List.getD]; rw [List.getElem?_append_left e]
    rw [e2]; exact ih e
   ·rw [List.length_append, List.length_singleton] at h
    obtain rfl : t = (plcs kind ns n).length := by omega
    have e2 : (plcs kind ns n ++ [(n : Int)]).getD (plcs kind ns n).length 0 = n := by simp [List.getD]
    rw [e2]; rfl
  ·rename_i hk
   rw [if_neg hk]
   exact ih h
theorem plcs_inj {kind : Int} {ns : List ND} {n t u : Nat} (ht : t < (plcs kind ns n).length) (hu : u < (plcs kind ns n).length) (h : ((plcs kind ns n).getD t 0).toNat = ((plcs kind ns n).getD u 0).toNat) : t = u := by
 rw [← plcs_pos ht, ← plcs_pos hu, h]
theorem lay_miss {P : List Int} {vs zss : List (List Int)} {p : Nat} : ∀ {k : Nat}, (∀ t, t < k → (P.getD t 0).toNat ≠ p) → (lay P vs zss k).getD p [] = zss.getD p [] := by
 intro k
 induction k with
 | zero => intro _; rfl
 | succ k ih =>
  intro h
  rw [← ih (fun t ht => h t (by omega))]
  have hne := h k (by omega)
  simp only [lay, List.getD] at hne ⊢
  rw [List.getElem?_set_ne hne]
theorem lay_hit {P : List Int} {vs zss : List (List Int)} {p t : Nat} : ∀ {k : Nat}, t < k → (P.getD t 0).toNat = p → p < zss.length → (∀ u, u < k → u ≠ t → (P.getD u 0).toNat ≠ p) → (lay P vs zss k).getD p [] = vs.getD t [] := by
 intro k
 induction k with
 | zero => intro h; omega
 | succ k ih =>
  intro h hp hl hu
  by_cases e : t = k
  ·subst e
   simp only [lay, List.getD] at hp ⊢
   rw [hp, List.getElem?_set_self (by rw [lay_len]; exact hl)]
   rfl
  ·rw [← ih (by omega) hp hl (fun u h1 h2 => hu u (by omega) h2)]
   have hne := hu k (by omega) (fun e2 => e e2.symm)
   simp only [lay, List.getD] at hne ⊢
   rw [List.getElem?_set_ne hne]
def KnownV (ns : List ND) (ss is : List (List Int)) (k : Nat) (zss : List (List Int)) : Prop := zss.length = ns.length ∧ ∀ i, i < ns.length → (i < k ∨ (ns.getD i default).kind = 36 ∨ (ns.getD i default).kind = 35) → zss.getD i [] = (evs ns ss is ns.length).getD i []
theorem evs_full (ns : List ND) (ss is : List (List Int)) {i : Nat} (h : i < ns.length) : (evs ns ss is ns.length).getD i [] = valAt ns ss is (evs ns ss is i) i := (evs_at ns ss is h).trans (evs_new ns ss is i)
theorem known_start {ns : List ND} {ss is : List (List Int)} : KnownV ns ss is 0 (lay (plcs 35 ns ns.length) is (lay (plcs 36 ns ns.length) ss (List.replicate ns.length []) (plcs 36 ns ns.length).length) (plcs 35 ns ns.length).length) := by
 refine ⟨by rw [lay_len, lay_len, List.length_replicate], fun i hi hc => ?_⟩
 have miss : ∀ {k1 k2 : Int}, k1 ≠ k2 → (ns.getD i default).kind = k1 → ∀ t, t < (plcs k2 ns ns.length).length → ((plcs k2 ns ns.length).getD t 0).toNat ≠ i := fun {k1 k2} hne hk t ht e => by
  have hm : (plcs k2 ns ns.length).getD t 0 ∈ plcs k2 ns ns.length := by
   rw [show (plcs k2 ns ns.length).getD t 0 = (plcs k2 ns ns.length)[t] by simp [List.getD, ht]]
   exact List.getElem_mem ht
  have h1 := (plcs_mem hm).2.2
  rw [e] at h1
  exact hne (hk.symm.trans h1)
 rw [evs_full ns ss is hi]
 rcases hc with hc | hc | hc
 ·omega
 ·obtain ⟨h1, h2⟩ := plcs_last hc hi
  rw [lay_miss (miss (by decide) hc)]
  rw [lay_hit (t := (plcs 36 ns i).length) h1 (by rw [h2]; rfl) (by rw [List.length_replicate]; exact hi) (fun u hu hne e => hne (plcs_inj hu h1 (by rw [e, h2]; rfl)))]
  unfold valAt; rw [if_pos hc]
 ·obtain ⟨h1, h2⟩ := plcs_last hc hi
  rw [lay_hit (t := (plcs 35 ns i).length) h1 (by rw [h2]; rfl) (by rw [lay_len, List.length_replicate]; exact hi) (fun u hu hne e => hne (plcs_inj hu h1 (by rw [e, h2]; rfl)))]
  unfold valAt; rw [if_neg (by omega), if_pos hc]
theorem known_skip {ns : List ND} {ss is zss : List (List Int)} {k : Nat} (h : KnownV ns ss is k zss) (hk : (ns.getD k default).kind = 36 ∨ (ns.getD k default).kind = 35) : KnownV ns ss is (k + 1) zss :=
 ⟨h.1, fun i hi hc => by
  rcases hc with hc | hc
  ·by_cases e : i = k
   ·subst e; exact h.2 i hi (.inr hk)
   ·exact h.2 i hi (.inl (by omega))
  ·exact h.2 i hi (.inr hc)⟩
theorem known_fit {ns : List ND} {ss is zss : List (List Int)} {k : Nat} (h : KnownV ns ss is k zss) (hk : k ≤ ns.length) (hg : nodesGood ns) (hs : FitsN 36 ns ss) (hi : FitsN 35 ns is) : fitK ns zss k := fun i hik => by
 rw [h.2 i (by omega) (.inl hik)]
 exact evs_fit hg hs hi (Nat.le_refl _) i (by omega)
theorem known_next {ns : List ND} {ss is zss : List (List Int)} {k : Nat} (h : KnownV ns ss is k zss) (hk : k < ns.length) (hin : NodeIn zss k (ns.getD k default)) (h36 : ¬ (ns.getD k default).kind = 36) (h35 : ¬ (ns.getD k default).kind = 35) : KnownV ns ss is (k + 1) (zss.set k (nodeVal ns (ns.getD k default) zss)) :=
 ⟨by rw [List.length_set]; exact h.1, fun i hi hc => by
  by_cases e : i = k
  ·subst e
   rw [evs_full ns ss is hi]
   unfold valAt
   rw [if_neg h36, if_neg h35]
   have e1 : (zss.set i (nodeVal ns (ns.getD i default) zss)).getD i [] = nodeVal ns (ns.getD i default) zss := by
    simp only [List.getD]; rw [List.getElem?_set_self (by rw [h.1]; exact hi)]; rfl
   rw [e1]
   refine nodeVal_congr hin h36 h35 (fun j hj => ?_)
   rw [h.2 j (by omega) (.inl hj), evs_at ns ss is (show j < ns.length by omega), evs_at ns ss is hj]
  ·have e1 : (zss.set k (nodeVal ns (ns.getD k default) zss)).getD i [] = zss.getD i [] := by
    simp only [List.getD]; rw [List.getElem?_set_ne (fun e2 => e e2.symm)]
   rw [e1]
   exact h.2 i hi (by rcases hc with hc | hc; exact .inl (by omega); exact .inr hc)⟩
theorem known_end {ns : List ND} {ss is zss : List (List Int)} (h : KnownV ns ss is ns.length zss) : zss = evs ns ss is ns.length := by
 apply List.ext_getElem (by rw [h.1, evs_len])
 intro i h1 h2
 have := h.2 i (by rw [← h.1]; exact h1) (.inl (by rw [← h.1]; exact h1))
 simpa [List.getD, h1, h2] using this
theorem made_vals (n : Nat) : (madeCells (Value.agg #[.slice none 0 0]).cells (n * 1)).toList = List.replicate n (.slice none 0 0) := by
 apply List.ext_getElem (by simp [madeCells])
 intro i h1 h2
 simp [madeCells, Value.cells, Nat.mod_one]
theorem ValRow.nils {base n : Nat} {w : World} {v : Value} (h : w.ownsRow base 69 1 v n (madeCells (Value.agg #[.slice none 0 0]).cells (n * 1)).toList) : ValRow base w v (List.replicate n (.slice none 0 0, [])) := by
 rw [made_vals] at h
 have hp : ∀ p ∈ List.replicate n ((.slice none 0 0, []) : Value × List Int), p = (.slice none 0 0, []) := fun p hp => (List.mem_replicate.1 hp).2
 refine ⟨by simpa using h, fun p h1 => ?_, fun p h1 => ?_, ?_⟩
 ·rw [hp p h1]; exact World.ownsInts_nil _ _ _ _
 ·rw [hp p h1]; exact .inl rfl
 ·rw [List.pairwise_iff_getElem]
  intro i j hi hj _
  refine .inl ?_
  rw [hp _ (List.getElem_mem hi)]; rfl
def hdA : Value → Option Addr
 | .slice a _ _ => a
 | _ => none
def hdC : Value → Nat
 | .slice _ _ c => c
 | _ => 0
def ptOf (ns : List ND) (xs : List (Value × List Int)) (p : Int) : PT := ⟨(sortAt ns p).1, (sortAt ns p).2, hdA (xs.getD p.toNat default).1, (xs.getD p.toNat default).2.length, hdC (xs.getD p.toNat default).1⟩
theorem map_snd_getD (xs : List (Value × List Int)) (i : Nat) : (xs.map Prod.snd).getD i [] = (xs.getD i default).2 := by
 simp only [List.getD, List.getElem?_map]
 cases xs[i]? <;> rfl
theorem part_mem {base : Nat} {w : World} {bn on l0 g n cap : Nat} {ns : List ND} {xs : List (Value × List Int)} {p : Int} (hv : ValRow base w (.slice (some ⟨g, 0, none⟩) n cap) xs) (hn : n = xs.length) (hnn : n = l0) (hl : ns.length = l0) (hbn : bn < w.heap.size) (hc : ∀ i (h : i < ns.length) j, j < 9 → w.cell? ⟨bn, on + i * 9 + j, none⟩ = (ND.cells ns[i])[j]?) (h0 : 0 ≤ p) (h1 : p.toNat < l0) :
  PartMem w.heap.size w bn on l0 g 0 n p (ptOf ns xs p) ∧ IntsAt w.heap.size w (ptOf ns xs p).a (ptOf ns xs p).len (ptOf ns xs p).cap ((xs.map Prod.snd).getD p.toNat []) := by
 obtain ⟨a, cp, zs, he, hcell, hown, -⟩ := hv.at_ hn (k := p.toNat) (by omega)
 have hg := (hv.row.lt g rfl).2
 have hx : ns.getD p.toNat default = ns[p.toNat]'(by omega) := by simp [List.getD, show p.toNat < ns.length by omega]
 have c6 := hc p.toNat (by omega) 6 (by decide)
 have c7 := hc p.toNat (by omega) 7 (by decide)
 rw [map_snd_getD]
 unfold ptOf
 rw [he]
 refine ⟨⟨p.toNat, by omega, h1, by omega, hbn, hg, ?_, ?_, by rw [Nat.zero_add]; exact hcell⟩, own_ints hown rfl⟩
 ·rw [c6]; unfold sortAt; rw [hx]; rfl
 ·rw [c7]; unfold sortAt; rw [hx]; rfl
theorem Below.undrew {B : Nat} {w w' : World} (h : Below B w.drew w') : Below B w w' := ⟨h.os, h.tape, h.output, h.size, h.block⟩
theorem PartsOf.below {B : Nat} {w w' : World} {ns : List ND} {x : ND} {vs : List (List Int)} {P : Nat → PT} (h : PartsOf B w ns x vs P) (hb : Below B w w') : PartsOf B w' ns x vs P := fun t ht => ⟨(h t ht).1, RowsAt.below (h t ht).2 hb⟩
def RaJ (ns : List ND) (ss is : List (List Int)) (n : Nat) (w : World) (i : Value) (wr : World) : Prop := ∃ (k : Nat) (xs : List (Value × List Int)), k ≤ ns.length ∧ i = .int .i64 k ∧ ValRow w.heap.size wr (.slice (some ⟨w.heap.size, 0, none⟩) n n) xs ∧ KnownV ns ss is k (xs.map Prod.snd) ∧ Below w.heap.size w wr
set_option maxHeartbeats 16000000 in
theorem c_reckonAll {B : Nat} {a0 : Option Addr} {l0 p0 : Nat} {ns : List ND} {sa ia : Option Addr} {sl sc il ic : Nat} {ss is : List (List Int)} (w : World) (hBw : B ≤ w.heap.size) (h : NodesAt B w a0 l0 p0 ns) (hs : ValsAt B w sa sl sc ss) (hi : ValsAt B w ia il ic is) (h60 : l0 ≤ 60) (hg : nodesGood ns) (hfs : FitsN 36 ns ss) (hfi : FitsN 35 ns is) :
  Calls Tryz.prog 49 #[.slice a0 l0 p0, .slice sa sl sc, .slice ia il ic] w (AllP ns ss is w) := by
 have HN := hid h
 have HSA := hid hs
 have HIA := hid hi
 have HG := hid hg
 have HFS := hid hfs
 have HFI := hid hfi
 have hnl : ns.length = l0 := h.1
 have hlen : ∀ {kind : Int} {vs : List (List Int)}, FitsN kind ns vs → ∀ i, i < vs.length → (vs.getD i []).length ≤ 4 := fun {kind vs} hf i hi => by
  have h1 := (hf.2 i hi).1
  have := cellsN_bound (ns.getD ((plcs kind ns ns.length).getD i 0).toNat default).si (ns.getD ((plcs kind ns ns.length).getD i 0).toNat default).sw
  omega
 have HS4 := hid (show ∀ i, i < sl → (ss.getD i []).length ≤ 4 from fun i hi' => hlen hfs i (by rw [hs.length]; exact hi'))
 have HI4 := hid (show ∀ i, i < il → (is.getD i []).length ≤ 4 from fun i hi' => hlen hfi i (by rw [hi.length]; exact hi'))
 have HSL := hid (show sl = (plcs 36 ns ns.length).length by rw [← hs.length]; exact hfs.1)
 have HIL := hid (show il = (plcs 35 ns ns.length).length by rw [← hi.length]; exact hfi.1)
 clear h hs hi hg hfs hfi hlen
 obtain ⟨i0, hi0, hz0, hz1, hz2⟩ := info_parts valueInfo
 obtain ⟨w0, hrun, hown, hgrow⟩ := run_make_full (P := Tryz.prog) w w.heap.size 30 69 i0 _ 1 Tryz.underlying30 hi0 hz0 hz1 .i64 .i64 l0 (by rw [hz2]; omega) (by unfold maxLen; omega) (Nat.le_refl _)
 have HB0 := hid ((Below.refl w.heap.size w).grown hgrow (Nat.le_refl _) (by simp))
 have HV0 := hid (ValRow.nils hown)
 have hs0 : w.heap.size ≤ w0.heap.size := hgrow.size
 clear hi0 hz0 hz1 hz2 hown hgrow
 go_enter Tryz.func49, Tryz.ntmps49
 go_wp2_with fail
 clear hrun
 refine (c_layDown (B := B) (base := w.heap.size) 36 w0 hBw hs0 (HN.out.rows.below (HB0.out.mono hBw)).nodes h60 (HSA.out.below (HB0.out.mono hBw)) HSL.out HS4.out HV0.out (by simp) rfl).mono ?_
 rintro e w1 ⟨u1, xs1, rfl, hv1, hx1, hb1⟩
 have HV1 := hid hv1
 have HX1 := hid hx1
 have HB1 := hid (HB0.out.trans hb1)
 have hs1 : w.heap.size ≤ w1.heap.size := by have := hb1.size; omega
 have hxl1 : xs1.length = l0 := by have := congrArg List.length hx1; rw [lay_len] at this; simpa using this
 have HXL1 := hid hxl1
 clear hv1 hx1 hb1 hxl1
 go_wp2_with fail
 refine (c_layDown (B := B) (base := w.heap.size) 35 w1 hBw hs1 (HN.out.rows.below (HB1.out.mono hBw)).nodes h60 (HIA.out.below (HB1.out.mono hBw)) HIL.out HI4.out HV1.out HXL1.out.symm rfl).mono ?_
 rintro e w2 ⟨u2, xs2, rfl, hv2, hx2, hb2⟩
 have HB2 := hid (HB1.out.trans hb2)
 have H0 := hid (show RaJ ns ss is l0 w (.int .i64 0) w2 from ⟨0, xs2, Nat.zero_le _, rfl, hv2, by
  rw [hx2, HX1.out]
  have := known_start (ns := ns) (ss := ss) (is := is)
  rw [show (List.replicate l0 ((.slice none 0 0, []) : Value × List Int)).map Prod.snd = List.replicate ns.length [] by rw [List.map_replicate, hnl]]
  exact this, HB2.out⟩)
 clear hv2 hx2 hb2 HV1 HX1 HXL1 HV0
 have HNL := hid hnl
 clear hnl
 go_wp2_with fail
 go_loopw [23] (fun i wr => RaJ ns ss is l0 w i wr) (fun i _ => l0 - (intOf i).toNat)
 case atStart => exact H0.out
 case round =>
  obtain ⟨k, xs, hk, rfl, hv, hkn, hBr⟩ := hrel
  have hkl0 : k ≤ l0 := by have := HNL.out; omega
  have HV := hid hv
  have HKN := hid hkn
  have HBr := hid hBr
  have hxl : xs.length = l0 := by have h1 := hkn.1; have := HNL.out; rw [List.length_map] at h1; omega
  have HXL := hid hxl
  clear hv hkn hBr hxl H0 hk
  by_cases hkl : k < l0
  ·have hki : (k : Int) < l0 := by omega
   have hkn : k < ns.length := by have := HNL.out; omega
   obtain ⟨-, -, -, -, -, hrow⟩ := (HN.out.rows.below (HBr.out.mono hBw))
   obtain ⟨b, off, rfl, hbB, hcells⟩ : ∃ b off, a0 = some ⟨b, off, none⟩ ∧ b < B ∧ ∀ i (h : i < ns.length) j, j < 9 → wr.cell? ⟨b, off + i * 9 + j, none⟩ = (ND.cells ns[i])[j]? := by
    rcases hrow with h | h
    ·omega
    ·exact h
   obtain ⟨nd, hnd⟩ : ∃ nd, ns.getD k default = nd := ⟨_, rfl⟩
   have hc := hcells k hkn
   rw [show ns[k] = nd by rw [← hnd]; simp [List.getD, hkn]] at hc
   obtain ⟨c0, c1, c2, c3, c4, c5, c6, c7, c8⟩ := node_cells hc
   have HND := hid hnd
   have HCL := hid hcells
   have HGK := hid (show nodeGood (ns.take k) nd from by have := HG.out k hkn; rw [hnd] at this; exact this)
   clear hc hnd hcells hrow
   obtain ⟨k0, pa, pb, pc, nn, mm, si, sw, nm⟩ := nd
   simp only at c0 c1 c2 c3 c4 c5 c6 c7 c8
   go_upto_region 7 with fail
   refine code_gen (R := fun wb => wb.heap[wr.heap.size]? = some (.cells #[.int .i64 k0, .int .i64 pa, .int .i64 pb, .int .i64 pc, .int .i64 nn, .int .i64 mm, .int .i64 si, .int .i64 sw, .string nm] 111 (0, 0)) ∧ Below wr.heap.size wr wb) ⟨by first | exact (MapKept.heap_alloc _ _).1 | exact heap_alloc_new _ _, by go_grown⟩ ?_
   rintro w3 ⟨k3, hb3⟩
   have hsr := HBr.out.size
   have hl3 : wr.heap.size < w3.heap.size := (Array.getElem?_eq_some_iff.1 k3).1
   have n0 := cell_of_block (i := 0) k3 (v := .int .i64 k0) rfl
   have HK3 := hid k3
   have HB3 := hid (HBr.out.trans (hb3.mono hsr))
   have HV3 := hid (HV.out.below hb3)
   have HC3 := hid (show ∀ i (h : i < ns.length) j, j < 9 → w3.cell? ⟨b, off + i * 9 + j, none⟩ = (ND.cells ns[i])[j]? from fun i h j hj => (hb3.cell (p := ⟨b, off + i * 9 + j, none⟩) (by show b < wr.heap.size; omega)).trans (HCL.out i h j hj))
   clear c0 c1 c2 c3 c4 c5 c6 c7 c8 k3 hb3
   cases hnm : namedB k0 with
   | true =>
    have HNM := hid hnm
    have HCK := hid (c_kindNamed k0 w3)
    rw [hnm] at HCK
    clear hnm
    go_wp2_with fail
    refine HCK.out.mono ?_
    rintro e w' ⟨rfl, rfl⟩
    clear n0
    go_wp2_with fail
    go_roundw
    case rel => exact ⟨k + 1, xs, hkn, by go_num, HV3.out, known_skip HKN.out (by
     rw [HND.out]
     exact (named_iff k0).1 HNM.out), HB3.out⟩
    case measure => simp [intOf] <;> omega
   | false =>
    have HCK := hid (c_kindNamed k0 w3)
    rw [hnm] at HCK
    have h36 : ¬ k0 = 36 := fun e => by have := (named_iff k0).2 (.inl e); rw [hnm] at this; cases this
    have h35 : ¬ k0 = 35 := fun e => by have := (named_iff k0).2 (.inr e); rw [hnm] at this; cases this
    have HFK := hid (known_fit HKN.out (Nat.le_of_lt hkn) HG.out HFS.out HFI.out)
    have HIN := hid (node_in HGK.out (Nat.le_of_lt hkn) HFK.out)
    have HVF := hid (node_fits HGK.out (Nat.le_of_lt hkn) HFK.out h36 h35)
    have hpci : ∀ t : Nat, (t : Int) < pcI k0 → (t : Int) < pcN k0 := fun t ht => by unfold pcI at ht; split at ht <;> omega
    have hpok : ∀ t : Nat, (t : Int) < pcN k0 → PartOk (xs.map Prod.snd) k (partAt ⟨k0, pa, pb, pc, nn, mm, si, sw, nm⟩ t) := fun t ht => by
     have hcs : t = 0 ∨ t = 1 ∨ t = 2 := by have := pcI_cases k0; have h0 := HIN.out.pc; simp only at h0; unfold pcI at this; rw [if_neg (by omega)] at this; omega
     rcases hcs with rfl | rfl | rfl
     ·exact HIN.out.pa (by show 1 ≤ pcN k0; omega)
     ·exact HIN.out.pb (by show 2 ≤ pcN k0; omega)
     ·exact HIN.out.pc3 (by show 3 ≤ pcN k0; omega)
    have HPM := hid (show ∀ t : Nat, (t : Int) < pcI k0 → PartMem w3.heap.size w3 b off l0 w.heap.size 0 l0 (partAt ⟨k0, pa, pb, pc, nn, mm, si, sw, nm⟩ t) (ptOf ns xs (partAt ⟨k0, pa, pb, pc, nn, mm, si, sw, nm⟩ t)) from fun t ht => (part_mem HV3.out HXL.out.symm rfl HNL.out (by omega) HC3.out (hpok t (hpci t ht)).1 (by have := (hpok t (hpci t ht)).2.1; omega)).1)
    have HPO := hid (show PartsOf w3.heap.size w3 ns ⟨k0, pa, pb, pc, nn, mm, si, sw, nm⟩ (xs.map Prod.snd) (fun t => ptOf ns xs (partAt ⟨k0, pa, pb, pc, nn, mm, si, sw, nm⟩ t)) from fun t ht => ⟨rfl, (part_mem HV3.out HXL.out.symm rfl HNL.out (by omega) HC3.out (hpok t ht).1 (by have := (hpok t ht).2.1; omega)).2⟩)
    have HFL := hid (fit_len HFK.out)
    have HVV := hid (valOk_fits HVF.out)
    clear hpci hpok hnm
    go_wp2_with fail
    refine HCK.out.mono ?_
    rintro e w' ⟨rfl, rfl⟩
    obtain ⟨zs, hzz⟩ : ∃ zs, nodeVal ns ⟨k0, pa, pb, pc, nn, mm, si, sw, nm⟩ (xs.map Prod.snd) = zs := ⟨_, rfl⟩
    have HZZ := hid hzz
    rw [hzz] at HVV
    clear n0 hzz
    have hrw : w3.ownsRow w.heap.size 69 1 (.slice (some ⟨w.heap.size, 0, none⟩) l0 l0) l0 (xs.map Prod.fst) := by have := HV3.out.row; rw [HXL.out] at this; exact this
    have d0 := hrw.cellAt k (by omega)
    have d1 := hrw.frozenAt k
    obtain ⟨v0, hv0⟩ : ∃ v0, (xs.map Prod.fst)[k]? = some v0 := ⟨_, List.getElem?_eq_getElem (by have := HXL.out; simp; omega)⟩
    rw [hv0] at d0
    have hgw3 : w.heap.size < w3.heap.size := by omega
    have HBX := hid (show ∀ w' : World, w'.heap[wr.heap.size]? = w3.heap[wr.heap.size]? → (fun w' => w'.cell? ⟨wr.heap.size, 0, none⟩ = some (.int .i64 k0) ∧ w'.cell? ⟨wr.heap.size, 1, none⟩ = some (.int .i64 pa) ∧ w'.cell? ⟨wr.heap.size, 2, none⟩ = some (.int .i64 pb) ∧ w'.cell? ⟨wr.heap.size, 3, none⟩ = some (.int .i64 pc) ∧ w'.cell? ⟨wr.heap.size, 4, none⟩ = some (.int .i64 nn) ∧ w'.cell? ⟨wr.heap.size, 5, none⟩ = some (.int .i64 mm) ∧ w'.cell? ⟨wr.heap.size, 6, none⟩ = some (.int .i64 si) ∧ w'.cell? ⟨wr.heap.size, 7, none⟩ = some (.int .i64 sw) ∧ w'.cell? ⟨wr.heap.size, 8, none⟩ = some (.string nm)) w' from fun w' hb => ⟨(cell_of_block (i := 0) (hb.trans HK3.out) (v := .int .i64 k0) rfl), (cell_of_block (i := 1) (hb.trans HK3.out) (v := .int .i64 pa) rfl), (cell_of_block (i := 2) (hb.trans HK3.out) (v := .int .i64 pb) rfl), (cell_of_block (i := 3) (hb.trans HK3.out) (v := .int .i64 pc) rfl), (cell_of_block (i := 4) (hb.trans HK3.out) (v := .int .i64 nn) rfl), (cell_of_block (i := 5) (hb.trans HK3.out) (v := .int .i64 mm) rfl), (cell_of_block (i := 6) (hb.trans HK3.out) (v := .int .i64 si) rfl), (cell_of_block (i := 7) (hb.trans HK3.out) (v := .int .i64 sw) rfl), (cell_of_block (i := 8) (hb.trans HK3.out) (v := .string nm) rfl)⟩)
    have HD := hid (show ∀ w' : World, Below w3.heap.size w3 w' → w'.cell? ⟨w.heap.size, k, none⟩ = some v0 ∧ w'.frozen? ⟨w.heap.size, k, none⟩ = false from fun w' hb => ⟨(World.cell?_of_block (w := w3) (w' := w') (a := ⟨w.heap.size, k, none⟩) (hb.block _ hgw3)).trans d0, (World.frozen?_of_block (w := w3) (w' := w') (a := ⟨w.heap.size, k, none⟩) (hb.block _ hgw3)).trans d1⟩)
    have hgwr : w.heap.size < wr.heap.size := (HV.out.row.lt _ rfl).2
    have hS : (fun w' => w'.cell? ⟨wr.heap.size, 0, none⟩ = some (.int .i64 k0) ∧ w'.cell? ⟨wr.heap.size, 1, none⟩ = some (.int .i64 pa) ∧ w'.cell? ⟨wr.heap.size, 2, none⟩ = some (.int .i64 pb) ∧ w'.cell? ⟨wr.heap.size, 3, none⟩ = some (.int .i64 pc) ∧ w'.cell? ⟨wr.heap.size, 4, none⟩ = some (.int .i64 nn) ∧ w'.cell? ⟨wr.heap.size, 5, none⟩ = some (.int .i64 mm) ∧ w'.cell? ⟨wr.heap.size, 6, none⟩ = some (.int .i64 si) ∧ w'.cell? ⟨wr.heap.size, 7, none⟩ = some (.int .i64 sw) ∧ w'.cell? ⟨wr.heap.size, 8, none⟩ = some (.string nm)) w3 := HBX.out w3 rfl
    clear hv0 d0 d1 hrw
    go_upto_region 8 with fail
    refine wp_region_held_drew (S := (fun w' => w'.cell? ⟨wr.heap.size, 0, none⟩ = some (.int .i64 k0) ∧ w'.cell? ⟨wr.heap.size, 1, none⟩ = some (.int .i64 pa) ∧ w'.cell? ⟨wr.heap.size, 2, none⟩ = some (.int .i64 pb) ∧ w'.cell? ⟨wr.heap.size, 3, none⟩ = some (.int .i64 pc) ∧ w'.cell? ⟨wr.heap.size, 4, none⟩ = some (.int .i64 nn) ∧ w'.cell? ⟨wr.heap.size, 5, none⟩ = some (.int .i64 mm) ∧ w'.cell? ⟨wr.heap.size, 6, none⟩ = some (.int .i64 si) ∧ w'.cell? ⟨wr.heap.size, 7, none⟩ = some (.int .i64 sw) ∧ w'.cell? ⟨wr.heap.size, 8, none⟩ = some (.string nm))) (by kernel_rfl) ?_ (fun hHeld => ?_)
    ·first | exact hS | exact HBX.out _ (HQ5.out.block _ hl3) | exact HBX.out _ (HQ4.out.block _ hl3) | exact HBX.out _ ((heap_setCell_other _ _ _ _ (by show wr.heap.size ≠ w.heap.size; omega)).trans (HQ5.out.block _ hl3))
    refine tL 0 (some 32) ?_
    refine tL 1 (some 33) ?_
    refine tL 2 (some 34) ?_
    refine tL 3 (some 35) ?_
    refine tL 4 (some 36) ?_
    refine tL 5 (some 37) ?_
    refine wpAnyH_ready (rs := [6]) (by kernel_rfl) (by simp) ?_
    refine .cons (o := _) rfl (fun K hK => ?_) .nil
    go_simp
    refine (c_valueParts (B := w3.heap.size) ⟨k0, pa, pb, pc, nn, mm, si, sw, nm⟩ (fun t => ptOf ns xs (partAt ⟨k0, pa, pb, pc, nn, mm, si, sw, nm⟩ t)) w3.drew (Nat.le_refl _) HPM.out h60 h60).mono ?_
    rintro e w4 ⟨rfl, hq4⟩
    have hq4' : Below w3.heap.size w3 w4 := Below.undrew hq4
    have HQ4 := hid hq4'
    clear hq4
    (try go_wp2_with fail)
    (try clear hHeld)
    refine hK.out _ _ ?_ (fun hHeld => ?_)
    ·first | exact hS | exact HBX.out _ (HQ5.out.block _ hl3) | exact HBX.out _ (HQ4.out.block _ hl3) | exact HBX.out _ ((heap_setCell_other _ _ _ _ (by show wr.heap.size ≠ w.heap.size; omega)).trans (HQ5.out.block _ hl3))
    clear hK K
    (try simp only [Act.put, zq1, zq2, zq3])
    refine wpAnyH_ready (rs := [7]) (by kernel_rfl) (by simp) ?_
    refine .cons (o := _) rfl (fun K hK => ?_) .nil
    go_simp
    refine (c_reckonNode (B := w3.heap.size) (ns := ns) (vs := xs.map Prod.snd) (k := k) ⟨k0, pa, pb, pc, nn, mm, si, sw, nm⟩ (fun t => ptOf ns xs (partAt ⟨k0, pa, pb, pc, nn, mm, si, sw, nm⟩ t)) w4 HQ4.out.size HIN.out (HPO.out.below HQ4.out) HFL.out (by rw [HZZ.out]; exact HVV.out) h36 h35).mono ?_
    rw [HZZ.out]
    rintro e w5 ⟨y, rfl, hoy, hq5⟩
    obtain ⟨ya, yc, rfl, -⟩ := own_form hoy
    have hq5' : Below w3.heap.size w3 w5 := HQ4.out.trans (hq5.mono HQ4.out.size)
    have HQ5 := hid hq5'
    have HOY := hid hoy
    have hs45 := HQ4.out.size
    obtain ⟨f0, f1⟩ := HD.out w5 hq5'
    clear hq5 hoy
    (try go_wp2_with fail)
    (try clear hHeld)
    refine hK.out _ _ ?_ (fun hHeld => ?_)
    ·first | exact hS | exact HBX.out _ (HQ5.out.block _ hl3) | exact HBX.out _ (HQ4.out.block _ hl3) | exact HBX.out _ ((heap_setCell_other _ _ _ _ (by show wr.heap.size ≠ w.heap.size; omega)).trans (HQ5.out.block _ hl3))
    clear hK K
    (try simp only [Act.put, zq1, zq2, zq3])
    refine tL 8 (some 40) ?_
    refine tL 9 (some 41) ?_
    refine wpAnyH_ready (rs := [10]) (by kernel_rfl) (by simp) ?_
    refine .cons (o := _) rfl (fun K hK => ?_) .nil
    go_simp
    (try clear hHeld)
    refine hK.out _ _ ?_ (fun hHeld => ?_)
    ·first | exact hS | exact HBX.out _ (HQ5.out.block _ hl3) | exact HBX.out _ (HQ4.out.block _ hl3) | exact HBX.out _ ((heap_setCell_other _ _ _ _ (by show wr.heap.size ≠ w.heap.size; omega)).trans (HQ5.out.block _ hl3))
    clear hK K
    (try simp only [Act.put, zq1, zq2, zq3])
    refine wpAnyH_done (by kernel_rfl) ?_ _
    clear hHeld hS
    have HV5 := hid (HV3.out.below HQ5.out)
    have hfr : ∀ y, Value.ownBlock (.slice ya zs.length yc) = some y → ¬ ValBlk (.slice (some ⟨w.heap.size, 0, none⟩) l0 l0) xs y := fun y hy hb => by have h1 := (HV3.out.blk hb).2; have h2 := (HOY.out.1.lt y hy).1; omega
    have HPUT := hid (HV5.out.put (i := k) HXL.out.symm (by have := HXL.out; omega) (World.ownsInts.mono' HOY.out (by omega)) hfr)
    have HBE := hid ((HB3.out.trans (HQ5.out.mono (by omega))).setCell (p := ⟨w.heap.size, k, none⟩) (Nat.le_refl _) (.slice ya zs.length yc))
    clear hfr
    go_wp2_with fail
    go_roundw
    case rel => exact ⟨k + 1, _, hkn, by go_num, HPUT.out, by
      have := known_next HKN.out hkn (by rw [HND.out]; exact HIN.out) (by rw [HND.out]; exact h36) (by rw [HND.out]; exact h35)
      rw [HND.out, HZZ.out] at this
      rw [List.map_set]; exact this, HBE.out⟩
    case measure => simp [intOf] <;> omega
  ·have hki : ¬ (k : Int) < l0 := by omega
   obtain rfl : k = l0 := by omega
   go_wp2_with fail
   go_ret
   exact ⟨_, xs, rfl, HV.out, known_end (by have := HKN.out; rw [← HNL.out] at this; exact this), HBr.out⟩
end Go.Proofs.YtlcgimadbpagfaaGreat
namespace Go.Proofs.YtlcgimadbpagfaaGreat
open Go.Lib
open Go.ChangeShapes Go.WideShapes Go.ChangeAt Go.RowKit Go.Maps
set_option linter.unusedVariables false
set_option maxRecDepth 100000
theorem code0_parts {M : MD} (h : CodeIs M 0) : nodesGood M.ns ∧ propsOk M.ns M.bads ∧ propsOk M.ns M.holds := by
 cases h
 rename_i h1 h2 h3 h4 h5 h6
 exact ⟨h2, h5⟩
end Go.Proofs.YtlcgimadbpagfaaGreat
